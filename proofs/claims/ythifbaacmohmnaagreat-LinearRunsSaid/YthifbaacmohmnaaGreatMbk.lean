/- Joined: GnOrM, GnBytes, GnThere, NormOrF, Union. -/
import Derived.Test.YthifbaacmohmnaaGreatMbj
import Derived.Test.YthifbaacmohmnaaGreatMax
import Derived.Test.YthifbaacmohmnaaGreatMav
import Derived.Test.YthifbaacmohmnaaGreatMbi
import Derived.Test.YthifbaacmohmnaaGreatProg
import Derived.Test.YthifbaacmohmnaaGreatMaa
import Derived.RegionTactic
import Derived.BigRegion
import Derived.LoopN
/- What Or and And of any nodes match: mathematics. -/
namespace Go.Proofs.YthifbaacmohmnaaGreat
open Go.RowKit
set_option linter.unusedSimpArgs false
set_option linter.unusedVariables false
set_option linter.unusedSectionVars false

section
variable {ns : List Nd} (hf : FineN ns) {k : Int} (hk : k = 4 ∨ k = 5)
include hf hk
theorem Coll.innF {l ms : List Int} (h : Coll ns k l ms) {y : Int} (hy : y ∈ ms) : isIn ns y ∧ kd ns y ≠ k := by
  obtain ⟨x, hx, hyx⟩ := (h.iff y).1 hy
  have := mem_in hf hk _ x (Nat.le_refl _) (h.lin x hx) y hyx
  exact ⟨this.1, this.2.2⟩
end
theorem nodup_few {n : Nat} {ms : List Int} (hp : ms.Nodup) (h : ∀ z ∈ ms, 0 ≤ z ∧ z < (n : Int)) : ms.length ≤ n := by
  have : ∀ (s m : List Int), s.Nodup → (∀ z ∈ s, z ∈ m) → s.length ≤ m.length := by
    intro s
    induction s with
    | nil => intro m _ _; exact Nat.zero_le _
    | cons x s ih =>
      intro m hp h
      obtain ⟨h1, h2⟩ := List.nodup_cons.1 hp
      have hx : x ∈ m := h x (by simp)
      have ih := ih (m.erase x) h2 (fun z hz => (List.mem_erase_of_ne (fun e => h1 (by rw [← e]; exact hz))).2 (h z (List.mem_cons_of_mem _ hz)))
      have := List.length_erase_of_mem hx
      have hpos : 0 < m.length := List.length_pos_of_mem hx
      rw [List.length_cons]
      omega
  have := this ms ((List.range n).map Int.ofNat) hp (fun z hz => by
    obtain ⟨h0, h1⟩ := h z hz
    exact List.mem_map.2 ⟨z.toNat, List.mem_range.2 (by omega), by show ((z.toNat : Nat) : Int) = z; omega⟩)
  simpa using this
theorem any_same {l : List Int} {f g : Int → Bool} (h : ∀ x ∈ l, f x = g x) : l.any f = l.any g := by
  induction l with
  | nil => rfl
  | cons x l ih => rw [List.any_cons, List.any_cons, h x (by simp), ih (fun y hy => h y (List.mem_cons_of_mem _ hy))]
theorem all_same {l : List Int} {f g : Int → Bool} (h : ∀ x ∈ l, f x = g x) : l.all f = l.all g := by
  induction l with
  | nil => rfl
  | cons x l ih => rw [List.all_cons, List.all_cons, h x (by simp), ih (fun y hy => h y (List.mem_cons_of_mem _ hy))]
theorem T_no_at' {ns : List Nd} (hf : FineN ns) {x : Int} (hx : isIn ns x) (k : kd ns x = 0) {l bits : List Nat} {i j : Nat} : nodeT l bits ns x i j = false := by rw [T_no hf hx k]; rfl
section
variable {ns : List Nd} (hf : FineN ns)
include hf
/- Or. -/
theorem or_coll {l ms : List Int} (h : Coll ns 4 l ms) (L bits : List Nat) (i j : Nat) : l.any (fun x => nodeT L bits ns x i j) = ms.any (fun x => nodeT L bits ns x i j) := by
  rw [Bool.eq_iff_iff, List.any_eq_true, List.any_eq_true]
  constructor
  · rintro ⟨x, hx, ht⟩
    rw [or_table hf _ x (Nat.le_refl _) (h.lin x hx), List.any_eq_true] at ht
    obtain ⟨y, hy, hty⟩ := ht
    exact ⟨y, (h.iff y).2 ⟨x, hx, hy⟩, hty⟩
  · rintro ⟨y, hy, hty⟩
    obtain ⟨x, hx, hyx⟩ := (h.iff y).1 hy
    exact ⟨x, hx, by rw [or_table hf _ x (Nat.le_refl _) (h.lin x hx), List.any_eq_true]; exact ⟨y, hyx, hty⟩⟩
theorem other_kinds {k : Int} {y : Int} (h : otherB ns k y = false) : kd ns y = 2 ∨ unitB ns k y = true := by
  unfold otherB at h
  by_cases e : kd ns y = 2
  · exact Or.inl e
  · rw [decide_eq_false e] at h
    right
    cases q : unitB ns k y with
    | true => rfl
    | false => rw [q] at h; cases h
theorem or_split {l ms : List Int} {U : St} (h : Coll ns 4 l ms) (hU : BytesOf ns 4 ms U) (L bits : List Nat) (hL : Byt L) (i j : Nat) : ms.any (fun x => nodeT L bits ns x i j) = ((ms.filter (otherB ns 4)).any (fun x => nodeT L bits ns x i j) || byteF U L i j) := by
  have hb : ∀ b, b < 256 → (U.has b = true ↔ ∃ y ∈ ms, kd ns y = 2 ∧ (ndAt ns y.toNat).set.has b = true) := fun b hb => by
    have := hU.2 b hb
    rw [show decide ((4 : Int) = 5) = false from rfl, Bool.bne_false] at this
    simpa using this
  have hlt : ∀ i, i < L.length → (L[i]?).getD 0 < 256 := fun i hi => by
    rw [List.getElem?_eq_getElem hi]; exact hL _ (List.getElem_mem hi)
  rw [Bool.eq_iff_iff, Bool.or_eq_true, List.any_eq_true, List.any_eq_true]
  constructor
  · rintro ⟨y, hy, ht⟩
    have hi := (h.innF hf (Or.inl rfl) hy).1
    cases ho : otherB ns 4 y with
    | true => exact Or.inl ⟨y, List.mem_filter.2 ⟨hy, ho⟩, ht⟩
    | false =>
      rcases other_kinds hf ho with k2 | ku
      · right
        rw [T_bytes hf hi k2] at ht
        unfold byteF at ht ⊢
        rw [Bool.and_eq_true, decide_eq_true_eq] at ht
        rw [Bool.and_eq_true, decide_eq_true_eq]
        exact ⟨ht.1, (hb _ (hlt i ht.1.2)).2 ⟨y, hy, k2, ht.2⟩⟩
      · rw [T_no_at' hf hi (of_decide_eq_true ku)] at ht; cases ht
  · rintro (⟨y, hy, ht⟩ | ht)
    · exact ⟨y, (List.mem_filter.1 hy).1, ht⟩
    · unfold byteF at ht
      rw [Bool.and_eq_true, decide_eq_true_eq] at ht
      obtain ⟨y, hy, k2, hh⟩ := (hb _ (hlt i ht.1.2)).1 ht.2
      refine ⟨y, hy, ?_⟩
      rw [T_bytes hf (h.innF hf (Or.inl rfl) hy).1 k2]
      unfold byteF
      rw [hh, decide_eq_true ht.1]; rfl
theorem byte_empty {U : St} (h : ∀ b, b < 256 → U.has b = false) {L : List Nat} (hL : Byt L) (i j : Nat) : byteF U L i j = false := by
  unfold byteF
  by_cases e : j = i + 1 ∧ i < L.length
  · rw [h _ (by rw [List.getElem?_eq_getElem e.2]; exact hL _ (List.getElem_mem e.2)), Bool.and_false]
  · rw [decide_eq_false e, Bool.false_and]
theorem or_top {l ms : List Int} (h : Coll ns 4 l ms) {y : Int} (hy : y ∈ ms) (ha : isAl ns y = true) : ParT ns 4 l ns y := fun L bits i j hL h1 h2 => by
  rw [if_pos rfl, or_coll hf h, T_al hf (h.innF hf (Or.inl rfl) hy).1 ha, decide_eq_true h1]
  refine (List.any_eq_true.2 ⟨y, hy, ?_⟩).symm
  rw [T_al hf (h.innF hf (Or.inl rfl) hy).1 ha, decide_eq_true h1]
/-- What joined makes of the others. -/
theorem or_rest {m1 ms2 : List Nd} {l ms : List Int} {U : St} {r : Int} (h : Coll ns 4 l ms) (hU : BytesOf ns 4 ms U) (he : ∀ b, b < 256 → U.has b = false) (hr : ParT (ns ++ m1) 4 (ms.filter (otherB ns 4)) ms2 r) : ParT ns 4 l ms2 r := fun L bits i j hL h1 h2 => by
  rw [hr L bits i j hL h1 h2, if_pos rfl, if_pos rfl, or_coll hf h, or_split hf h hU L bits hL, byte_empty hf he hL, Bool.or_false]
  refine any_same (fun y hy => ?_)
  rw [nodeT_up L bits m1 (h.innF hf (Or.inl rfl) (List.mem_filter.1 hy).1).1]
theorem or_byte {m1 ms2 : List Nd} {l ms : List Int} {U : St} {b r : Int} (hf1 : FineN (ns ++ m1)) (h : Coll ns 4 l ms) (hU : BytesOf ns 4 ms U) (hb : isIn (ns ++ m1) b) (hn : ndAt (ns ++ m1) b.toNat = ⟨2, U, 0, 0, false⟩) (hr : ParT (ns ++ m1) 4 (ms.filter (otherB ns 4) ++ [b]) ms2 r) : ParT ns 4 l ms2 r := fun L bits i j hL h1 h2 => by
  rw [hr L bits i j hL h1 h2, if_pos rfl, if_pos rfl, or_coll hf h, or_split hf h hU L bits hL, List.any_append, List.any_cons, List.any_nil, Bool.or_false]
  have e1 : nodeT L bits (ns ++ m1) b i j = byteF U L i j := by
    rw [T_bytes hf1 hb (by unfold kd; rw [hn]), hn]
  rw [e1]
  congr 1
  refine any_same (fun y hy => ?_)
  rw [nodeT_up L bits m1 (h.innF hf (Or.inl rfl) (List.mem_filter.1 hy).1).1]
theorem or_none {more : List Nd} {l ms : List Int} {U : St} {r : Int} (hfm : FineN (ns ++ more)) (h : Coll ns 4 l ms) (hU : BytesOf ns 4 ms U) (he : ∀ b, b < 256 → U.has b = false) (ho : ms.filter (otherB ns 4) = []) (hr : isIn (ns ++ more) r) (k0 : kd (ns ++ more) r = 0) : ParT ns 4 l (ns ++ more) r := fun L bits i j hL h1 h2 => by
  rw [if_pos rfl, or_coll hf h, or_split hf h hU L bits hL, byte_empty hf he hL, ho, T_no_at' hfm hr k0]; rfl
/- And. -/
theorem and_coll {l ms : List Int} (h : Coll ns 5 l ms) (L bits : List Nat) (i j : Nat) : l.all (fun x => nodeT L bits ns x i j) = ms.all (fun x => nodeT L bits ns x i j) := by
  rw [Bool.eq_iff_iff, List.all_eq_true, List.all_eq_true]
  constructor
  · intro hl y hy
    obtain ⟨x, hx, hyx⟩ := (h.iff y).1 hy
    have ht := hl x hx
    rw [and_table hf _ x (Nat.le_refl _) (h.lin x hx), List.all_eq_true] at ht
    exact ht y hyx
  · intro hm x hx
    rw [and_table hf _ x (Nat.le_refl _) (h.lin x hx), List.all_eq_true]
    exact fun y hy => hm y ((h.iff y).2 ⟨x, hx, hy⟩)
theorem and_split {l ms : List Int} {U : St} {hb : Bool} (h : Coll ns 5 l ms) (hU : BytesOf ns 5 ms U) (hB : hb = true ↔ ∃ y ∈ ms, kd ns y = 2) (L bits : List Nat) (hL : Byt L) {i j : Nat} (hij : i ≤ j) : ms.all (fun x => nodeT L bits ns x i j) = ((ms.filter (otherB ns 5)).all (fun x => nodeT L bits ns x i j) && (!hb || byteF U L i j)) := by
  have hbu : ∀ b, b < 256 → (U.has b = true ↔ ∀ y ∈ ms, kd ns y = 2 → (ndAt ns y.toNat).set.has b = true) := fun b hb => by
    have h1 := hU.2 b hb
    rw [show decide ((5 : Int) = 5) = true from rfl] at h1
    constructor
    · intro hu y hy k2
      cases q : (ndAt ns y.toNat).set.has b with
      | true => rfl
      | false =>
        have := h1.2 ⟨y, hy, k2, by rw [q]; rfl⟩
        rw [hu] at this; cases this
    · intro hall
      cases q : U.has b with
      | true => rfl
      | false =>
        rw [q] at h1
        obtain ⟨y, hy, k2, hh⟩ := h1.1 rfl
        rw [hall y hy k2] at hh; cases hh
  have hlt : ∀ i, i < L.length → (L[i]?).getD 0 < 256 := fun i hi => by
    rw [List.getElem?_eq_getElem hi]; exact hL _ (List.getElem_mem hi)
  rw [Bool.eq_iff_iff, Bool.and_eq_true, List.all_eq_true, List.all_eq_true]
  constructor
  · intro hm
    refine ⟨fun y hy => hm y (List.mem_filter.1 hy).1, ?_⟩
    cases hb with
    | false => rfl
    | true =>
      obtain ⟨y, hy, k2⟩ := hB.1 rfl
      have ht := hm y hy
      rw [T_bytes hf (h.innF hf (Or.inr rfl) hy).1 k2] at ht
      unfold byteF at ht ⊢
      rw [Bool.and_eq_true, decide_eq_true_eq] at ht
      rw [(hbu _ (hlt i ht.1.2)).2 (fun z hz kz => ?_), decide_eq_true ht.1]
      · rfl
      · have hz' := hm z hz
        rw [T_bytes hf (h.innF hf (Or.inr rfl) hz).1 kz] at hz'
        unfold byteF at hz'
        rw [Bool.and_eq_true] at hz'
        exact hz'.2
  · rintro ⟨h1, h2⟩ y hy
    have hi := (h.innF hf (Or.inr rfl) hy).1
    cases ho : otherB ns 5 y with
    | true => exact h1 y (List.mem_filter.2 ⟨hy, ho⟩)
    | false =>
      rcases other_kinds hf ho with k2 | ku
      · have : hb = true := hB.2 ⟨y, hy, k2⟩
        subst this
        have h2 : byteF U L i j = true := h2
        rw [T_bytes hf hi k2]
        unfold byteF at h2 ⊢
        rw [Bool.and_eq_true, decide_eq_true_eq] at h2
        rw [(hbu _ (hlt i h2.1.2)).1 h2.2 y hy k2, decide_eq_true h2.1]; rfl
      · have ku : isAl ns y = true := ku
        rw [T_al hf hi ku, decide_eq_true hij]
theorem and_top {l ms : List Int} (h : Coll ns 5 l ms) {y : Int} (hy : y ∈ ms) (ha : isNo ns y = true) : ParT ns 5 l ns y := fun L bits i j hL h1 h2 => by
  have hi := (h.innF hf (Or.inr rfl) hy).1
  rw [if_neg (by decide), and_coll hf h, T_no_at' hf hi (of_decide_eq_true ha)]
  refine (Bool.eq_false_iff.2 (fun q => ?_)).symm
  have := List.all_eq_true.1 q y hy
  rw [T_no_at' hf hi (of_decide_eq_true ha)] at this; cases this
theorem and_rest {m1 ms2 : List Nd} {l ms : List Int} {U : St} {r : Int} (h : Coll ns 5 l ms) (hU : BytesOf ns 5 ms U) (hB : ∀ y ∈ ms, kd ns y ≠ 2) (hr : ParT (ns ++ m1) 5 (ms.filter (otherB ns 5)) ms2 r) : ParT ns 5 l ms2 r := fun L bits i j hL h1 h2 => by
  have hB' : (false = true) ↔ ∃ y ∈ ms, kd ns y = 2 := ⟨fun q => absurd q (by simp), fun ⟨y, hy, q⟩ => absurd q (hB y hy)⟩
  rw [hr L bits i j hL h1 h2, if_neg (by decide), if_neg (by decide), and_coll hf h, and_split hf h hU hB' L bits hL h1, Bool.not_false, Bool.true_or, Bool.and_true]
  refine all_same (fun y hy => ?_)
  rw [nodeT_up L bits m1 (h.innF hf (Or.inr rfl) (List.mem_filter.1 hy).1).1]
theorem and_byte {m1 ms2 : List Nd} {l ms : List Int} {U : St} {b r : Int} (hf1 : FineN (ns ++ m1)) (h : Coll ns 5 l ms) (hU : BytesOf ns 5 ms U) (hB : ∃ y ∈ ms, kd ns y = 2) (hb : isIn (ns ++ m1) b) (hn : ndAt (ns ++ m1) b.toNat = ⟨2, U, 0, 0, false⟩) (hr : ParT (ns ++ m1) 5 (ms.filter (otherB ns 5) ++ [b]) ms2 r) : ParT ns 5 l ms2 r := fun L bits i j hL h1 h2 => by
  have hB' : (true = true) ↔ ∃ y ∈ ms, kd ns y = 2 := ⟨fun _ => hB, fun _ => rfl⟩
  rw [hr L bits i j hL h1 h2, if_neg (by decide), if_neg (by decide), and_coll hf h, and_split hf h hU hB' L bits hL h1, List.all_append, List.all_cons, List.all_nil, Bool.and_true, Bool.not_true, Bool.false_or]
  have e1 : nodeT L bits (ns ++ m1) b i j = byteF U L i j := by
    rw [T_bytes hf1 hb (by unfold kd; rw [hn]), hn]
  rw [e1]
  congr 1
  refine all_same (fun y hy => ?_)
  rw [nodeT_up L bits m1 (h.innF hf (Or.inr rfl) (List.mem_filter.1 hy).1).1]
theorem and_none {more : List Nd} {l ms : List Int} {U : St} {r : Int} (hfm : FineN (ns ++ more)) (h : Coll ns 5 l ms) (hU : BytesOf ns 5 ms U) (he : ∀ b, b < 256 → U.has b = false) (hr : isIn (ns ++ more) r) (k0 : kd (ns ++ more) r = 0) : ParT ns 5 l (ns ++ more) r := fun L bits i j hL h1 h2 => by
  have hB : ∃ y ∈ ms, kd ns y = 2 := by
    have := (hU.2 0 (by omega)).1 (by rw [he 0 (by omega)]; rfl)
    obtain ⟨y, hy, k2, _⟩ := this
    exact ⟨y, hy, k2⟩
  have hB' : (true = true) ↔ ∃ y ∈ ms, kd ns y = 2 := ⟨fun _ => hB, fun _ => rfl⟩
  rw [if_neg (by decide), and_coll hf h, and_split hf h hU hB' L bits hL h1, byte_empty hf he hL, T_no_at' hfm hr k0]
  simp
theorem and_all {more : List Nd} {l ms : List Int} {U : St} {r : Int} (hfm : FineN (ns ++ more)) (h : Coll ns 5 l ms) (hU : BytesOf ns 5 ms U) (hB : ∀ y ∈ ms, kd ns y ≠ 2) (ho : ms.filter (otherB ns 5) = []) (hr : isIn (ns ++ more) r) (ha : isAl (ns ++ more) r = true) : ParT ns 5 l (ns ++ more) r := fun L bits i j hL h1 h2 => by
  have hB' : (false = true) ↔ ∃ y ∈ ms, kd ns y = 2 := ⟨fun q => absurd q (by simp), fun ⟨y, hy, q⟩ => absurd q (hB y hy)⟩
  rw [if_neg (by decide), and_coll hf h, and_split hf h hU hB' L bits hL h1, ho, T_al hfm hr ha, decide_eq_true h1]
  simp
end
section
variable {AA : World → Value → List Nd → (Nat → Prop) → Prop}
/-- What comes of joined, for Or and And. -/
theorem joined_got (S : ArenaMid AA) {ns m1 : List Nd} {k : Int} {w w1 w2 : World} {a v : Value} {F F1 : Nat → Prop} {L : List Int} {e : Ending} {R : List Nd → Int → Prop} (hF1 : ∀ b, F1 b → F b ∨ w.heap.size ≤ b) (ho1 : OffF F w w1) (hv : ∀ b, v.ownBlock = some b → w.heap.size ≤ b)
    (hp : JoinedG AA w1 a v (ns ++ m1) F1 k L e w2) (hR : ∀ more r, FineN ((ns ++ m1) ++ more) → ParT (ns ++ m1) k L ((ns ++ m1) ++ more) r → (∀ x ∈ L, isIn (ns ++ m1) x) → R ((ns ++ m1) ++ more) r) : Got AA w a ns F R e w2 := by
  obtain ⟨r, more, F', rfl, h1, h2, h3, h4⟩ := hp
  have hfi := S.fine h1
  refine ⟨r, m1 ++ more, F', rfl, by rw [← List.append_assoc]; exact h1, fun b q => ?_, ?_, by rw [← List.append_assoc]; exact h4.imp id (fun z => ⟨z.1, hR more r hfi z.2.1 z.2.2⟩)⟩
  · rcases h2 b q with c | c
    · exact hF1 b c
    · exact Or.inr (Nat.le_trans ho1.size c)
  · refine ⟨h3.os.trans ho1.os, h3.tape.trans ho1.tape, h3.output.trans ho1.output, Nat.le_trans ho1.size h3.size, fun b hb hn => ?_⟩
    rw [h3.block b (Nat.lt_of_lt_of_le hb ho1.size) (fun z => by
      rcases z with z | z
      · rcases hF1 b z with c | c
        · exact hn c
        · omega
      · have := hv b z; omega)]
    exact ho1.block b hb hn
end

end Go.Proofs.YthifbaacmohmnaaGreat

/- norm.All, norm.Bytes of an arena that may get full. -/
namespace Go.Proofs.YthifbaacmohmnaaGreat
open Go.RowKit
set_option linter.unusedSimpArgs false
set_option linter.unusedVariables false

section
variable {AA : World → Value → List Nd → (Nat → Prop) → Prop}
set_option maxRecDepth 100000 in
set_option maxHeartbeats 4000000 in
theorem gNotNo (S : ArenaMid AA) {w : World} {a : Value} {ns : List Nd} {F : Nat → Prop} (h : AA w a ns F) : Calls Tryz.prog 89 #[a, .int .i64 (-1)] w fun e w' => e = .returned (.int .i64 (-1)) ∧ Below w.heap.size w w' := by
  have HA := Lib.hid h
  have HN := Lib.hid (S.node (-1) h (by unfold I64; omega))
  have hdec : decide (0 ≤ (-1 : Int) ∧ (-1 : Int) < (ns.length : Int)) = false := decide_eq_false (by omega)
  rw [hdec] at HN
  clear h hdec
  go_enter Tryz.func89, Tryz.ntmps89
  go_wp2_with fail
  refine HN.out.mono ?_
  rintro e w1 ⟨y, rfl, _, hb1, hz⟩
  obtain rfl := hz (by omega)
  have HB1 := Lib.hid hb1
  have hone := Nd.one Nd.zero
  have HXb := Lib.hid (boxN_at w1 Nd.zero)
  have HBb := Lib.hid (HB1.out.trans ((boxN_next w1 Nd.zero).mono HB1.out.size))
  have ck := (Nd.cells HXb.out).1
  clear hb1 hz
  have HP := Lib.hid (nPutNo S ⟨6, noSt, -1, 0, false⟩ (S.next HA.out HBb.out) (fit_small _ _ _ _ (by unfold I64; omega) (by unfold I64; omega) (by unfold I64; omega)) (by unfold Nd.right aIn; simp))
  go_wp2_with (first
    | (with_reducible show wpList _ _ _ ({ dst := none, op := .store _ _ _, type := _, pos := _, after := _, guard := _ } :: _) _ _
       refine wpList_store_row rfl 61 _ _ rfl w1.heap.size Nd.zero.cs.toArray rfl rfl 61 Nd.zero.cs.toArray (At.new _ _ _) (by kernel_rfl) rfl hone ?_
       first | change wpList _ _ _ _ _ (boxN w1 Nd.zero) | change Exit.then _ _ _ _ (boxN w1 Nd.zero))
    | fail)
  refine HP.out.mono ?_
  rintro e w2 ⟨rfl, hb2⟩
  have HB2 := Lib.hid (HBb.out.trans (hb2.mono HBb.out.size))
  clear hb2
  go_wp2_with fail
  go_ret
  exact ⟨rfl, HB2.out⟩

set_option maxRecDepth 100000 in
set_option maxHeartbeats 4000000 in
theorem gAll (S : ArenaAny AA) {w : World} {a : Value} {ns : List Nd} {F : Nat → Prop} (h : AA w a ns F) : Calls Tryz.prog 131 #[a] w (Got AA w a ns F fun ms r => isAl ms r = true) := by
  have HP := Lib.hid (gNone S h)
  clear h
  go_enter Tryz.func131, Tryz.ntmps131
  go_wp2_with fail
  refine HP.out.mono ?_
  rintro e w1 ⟨r1, more1, F1, rfl, g1, g2, g3, g4⟩
  have H1 := Lib.hid g1
  have H2 := Lib.hid g2
  have H3 := Lib.hid g3
  rcases g4 with rfl | ⟨g5, g6⟩
  · have HQ := Lib.hid (gNotNo S.toArenaMid g1)
    clear g1 g2 g3
    go_wp2_with fail
    refine HQ.out.mono ?_
    rintro e w2 ⟨rfl, hb⟩
    have HG : Hid (Got AA w a ns F (fun ms r => isAl ms r = true) (.returned (.int .i64 (-1))) w2) := Lib.hid (Got.seq H2.out H3.out (Got.no S.toArenaMid H1.out hb))
    clear hb
    go_wp2_with fail
    go_ret
    exact HG.out
  · have HQ := Lib.hid (gNot S r1 g1 g5)
    have H5 := Lib.hid g5
    have H6 := Lib.hid g6
    clear g1 g2 g3 g5 g6
    go_wp2_with fail
    refine HQ.out.mono ?_
    rintro e w2 g
    obtain ⟨r, _, _, rfl, _⟩ := id g
    have HG : Hid (Got AA w a ns F (fun ms r => isAl ms r = true) (.returned (.int .i64 r)) w2) := Lib.hid (Got.seq H2.out H3.out (g.mono (fun more r q _ _ => by
      have hk : kd ((ns ++ more1) ++ more) r1 = 0 := by rw [kd_up H5.out, H6.out]
      obtain ⟨k1, k2⟩ := q.2.2 (by rw [hk]; decide)
      unfold isAl
      rw [k1, k2, hk]; rfl) S.toArenaMid))
    clear g
    go_wp2_with fail
    go_ret
    exact HG.out

set_option maxRecDepth 100000 in
set_option maxHeartbeats 4000000 in
theorem gBytes (S : ArenaAny AA) {w : World} {a : Value} {ns : List Nd} {F : Nat → Prop} (s : St) (h : AA w a ns F) (hs : s.Ok) : Calls Tryz.prog 84 #[a, .agg #[.int .u64 s.w0, .int .u64 s.w1, .int .u64 s.w2, .int .u64 s.w3]] w (Got AA w a ns F fun ms r => (s.list.length = 0 ∧ kd ms r = 0) ∨ (s.list.length ≠ 0 ∧ ndAt ms r.toNat = ⟨2, s, 0, 0, false⟩)) := by
  have HB : Hid (Below w.heap.size w (w.alloc (.cells #[.int .u64 s.w0, .int .u64 s.w1, .int .u64 s.w2, .int .u64 s.w3] 46))) := Lib.hid ((Below.refl _ _).alloc (Nat.le_refl _) _)
  have HA := Lib.hid (S.next h HB.out)
  have HS := Lib.hid hs
  have HCt := Lib.hid (setCount s hs (w.alloc (.cells #[.int .u64 s.w0, .int .u64 s.w1, .int .u64 s.w2, .int .u64 s.w3] 46)))
  clear h hs
  go_enter Tryz.func84, Tryz.ntmps84
  go_wp2_with fail
  refine HCt.out.mono ?_
  rintro e w1 ⟨rfl, hb1⟩
  have HB1 := Lib.hid (HB.out.trans (hb1.mono HB.out.size))
  have HA1 := Lib.hid (S.next HA.out hb1)
  have hcell := fun (i : Nat) => ((bcell hb1).1 w.heap.size i (by simp)).trans ((At.new w 46 #[.int .u64 s.w0, .int .u64 s.w1, .int .u64 s.w2, .int .u64 s.w3]).cell i)
  have c0 : w1.cell? ⟨w.heap.size, 0, none⟩ = some (.int .u64 s.w0) := hcell 0
  have c1 : w1.cell? ⟨w.heap.size, 1, none⟩ = some (.int .u64 s.w1) := hcell 1
  have c2 : w1.cell? ⟨w.heap.size, 2, none⟩ = some (.int .u64 s.w2) := hcell 2
  have c3 : w1.cell? ⟨w.heap.size, 3, none⟩ = some (.int .u64 s.w3) := hcell 3
  clear hb1 hcell
  obtain ⟨n, hn⟩ : ∃ n, n = s.list.length := ⟨_, rfl⟩
  rw [← hn]
  have HN := Lib.hid hn
  clear hn
  by_cases h0 : n = 0
  · have HP := Lib.hid (gNone S HA1.out)
    have HN0 := Lib.hid h0
    subst h0
    go_wp2_with fail
    refine HP.out.mono ?_
    rintro e w2 g
    obtain ⟨r, _, _, rfl, _⟩ := id g
    have HG := Lib.hid ((g.from HB1.out).mono (R' := fun ms r => (s.list.length = 0 ∧ kd ms r = 0) ∨ (s.list.length ≠ 0 ∧ ndAt ms r.toNat = ⟨2, s, 0, 0, false⟩)) (fun more r q _ _ => Or.inl ⟨HN.out.symm, q⟩) S.toArenaMid)
    clear g
    go_wp2_with fail
    go_ret
    exact HG.out
  · have hne : ¬ ((n : Int) = 0) := by omega
    have hnb := (int_ne hne).1
    have hnb' : (((n : Nat) : Int) == 0) = false := hnb
    have HNe : Hid (s.list.length ≠ 0) := Lib.hid (by rw [← HN.out]; exact h0)
    have HP := Lib.hid (gPut S ⟨2, s, 0, 0, false⟩ HA1.out ⟨by unfold I64; dsimp only; omega, HS.out, by unfold I64; dsimp only; omega, by unfold I64; dsimp only; omega⟩ (by unfold Nd.right; rw [if_neg (by simp), if_pos rfl]; exact Nd.eqb_self _))
    clear h0 hne
    go_wp2_with fail
    refine HP.out.mono ?_
    rintro e w2 g
    obtain ⟨r, _, _, rfl, _⟩ := id g
    have HG := Lib.hid ((g.from HB1.out).mono (R' := fun ms r => (s.list.length = 0 ∧ kd ms r = 0) ∨ (s.list.length ≠ 0 ∧ ndAt ms r.toNat = ⟨2, s, 0, 0, false⟩)) (fun more r q _ _ => Or.inr ⟨HNe.out, q⟩) S.toArenaMid)
    clear g
    go_wp2_with fail
    go_ret
    exact HG.out
end

end Go.Proofs.YthifbaacmohmnaaGreat

/- norm.there where a node isn't there. -/
namespace Go.Proofs.YthifbaacmohmnaaGreat
open Go.RowKit
set_option linter.unusedSimpArgs false
set_option linter.unusedVariables false

section
variable {AA : World → Value → List Nd → (Nat → Prop) → Prop}
set_option maxRecDepth 100000 in
set_option maxHeartbeats 4000000 in
theorem gThereNo (S : ArenaMid AA) {w : World} {a v : Value} {ns : List Nd} {F : Nat → Prop} (l : List Int) (h : AA w a ns F) (hv : ListAt w v l) (hl : l.length ≤ 20000) (hN : ∃ x ∈ l, ¬ isIn ns x) : Calls Tryz.prog 124 #[a, v] w fun e w' => e = .returned (.bool false) ∧ w' = w := by
  obtain ⟨A, c, rfl, hv⟩ := hv
  have HV := Lib.hid hv
  have HI := Lib.hid hN
  have hmx := S.max h
  have HA := Lib.hid h
  have HL := Lib.hid (S.len h)
  clear hv hN h
  go_enter Tryz.func124, Tryz.ntmps124
  go_wp2_with fail
  go_loopw [9] (fun i wr => ∃ j : Nat, j ≤ l.length ∧ i = .int .i64 j ∧ wr = w ∧ Hid (∀ p (h : p < l.length), p < j → isIn ns l[p])) (fun i _ => l.length - (intOf i).toNat)
  case atStart => exact ⟨0, Nat.zero_le _, rfl, rfl, Lib.hid (fun p _ hp => absurd hp (Nat.not_lt_zero _))⟩
  case round =>
    obtain ⟨j, hj, rfl, rfl, HJ⟩ := hrel
    by_cases hjl : j < l.length
    · obtain ⟨b, off, rfl, hlt, hc⟩ := HV.out (by omega)
      have hjz : (0 : Int) ≤ (j : Int) := by omega
      have hjn : (j : Int) < (l.length : Int) := by omega
      have c0 := hc j hjl
      obtain ⟨x, hx⟩ : ∃ x, l[j] = x := ⟨_, rfl⟩
      have HX := Lib.hid hx
      rw [hx] at c0
      clear hc hx
      by_cases hx0 : x < 0
      · have hxd0 : decide (x < 0) = true := decide_eq_true hx0
        go_wp2_with fail
        go_ret
        exact ⟨rfl, rfl⟩
      · have hxd0 : decide (x < 0) = false := decide_eq_false hx0
        by_cases hx1 : (ns.length : Int) ≤ x
        · have hxd1 : decide ((ns.length : Int) ≤ x) = true := decide_eq_true hx1
          go_wp2_with fail
          refine HL.out.mono ?_
          rintro e w1 ⟨rfl, rfl⟩
          go_wp2_with fail
          go_ret
          exact ⟨rfl, rfl⟩
        · have hxd1 : decide ((ns.length : Int) ≤ x) = false := decide_eq_false hx1
          have HIn : Hid (isIn ns x) := Lib.hid (by unfold isIn; omega)
          go_wp2_with fail
          refine HL.out.mono ?_
          rintro e w1 ⟨rfl, rfl⟩
          go_wp2_with fail
          refine ⟨⟨j + 1, by omega, by go_num, by trivial, Lib.hid (fun p hp hpj => ?_)⟩, by simp [intOf]; omega⟩
          by_cases e : p = j
          · subst e; rw [HX.out]; exact HIn.out
          · exact HJ.out p hp (by omega)
    · obtain rfl : j = l.length := by omega
      obtain ⟨x, hx, hn⟩ := HI.out
      obtain ⟨p, hp, rfl⟩ := List.mem_iff_getElem.1 hx
      exact absurd (HJ.out p hp hp) hn

set_option maxRecDepth 100000 in
set_option maxHeartbeats 4000000 in
/-- Cat of a node that isn't there. -/
theorem gCatNo (S : ArenaMid AA) (x y : Int) {w : World} {a : Value} {ns : List Nd} {F : Nat → Prop} (h : AA w a ns F) (hx : ¬ isIn ns x) :
    Calls Tryz.prog 123 #[a, .int .i64 x, .int .i64 y] w fun e w' => e = .returned (.int .i64 (-1)) ∧ Below w.heap.size w w' := by
  have HB : Hid (Below w.heap.size w (w.alloc (.cells #[.int .i64 x, .int .i64 y] 3))) := Lib.hid ((Below.refl _ _).alloc (Nat.le_refl _) _)
  have HT : Hid (Calls Tryz.prog 124 #[a, .slice (some ⟨w.heap.size, 0, none⟩) 2 2] (w.alloc (.cells #[.int .i64 x, .int .i64 y] 3)) fun e w' => e = .returned (.bool false) ∧ w' = w.alloc (.cells #[.int .i64 x, .int .i64 y] 3)) := Lib.hid (gThereNo S [x, y] (S.next h HB.out) (list_two _ _ _ _) (by simp) ⟨x, by simp, hx⟩)
  clear h hx
  go_enter Tryz.func123, Tryz.ntmps123
  go_wp2_with fail
  refine HT.out.mono ?_
  rintro e w1 ⟨rfl, rfl⟩
  go_wp2_with fail
  go_ret
  exact ⟨rfl, HB.out⟩
end

end Go.Proofs.YthifbaacmohmnaaGreat

/- What comes of joined, for Or and And. -/
namespace Go.Proofs.YthifbaacmohmnaaGreat
open Go.RowKit
set_option linter.unusedSimpArgs false
set_option linter.unusedVariables false
set_option linter.unusedSectionVars false

/-- What is handed to joined. -/
def ListOf (ns m1 : List Nd) (k : Int) (ms L : List Int) : Prop :=
  (m1 = [] ∧ L = ms.filter (otherB ns k) ∧ ∀ y ∈ ms, kd ns y ≠ 2) ∨ ∃ b U, L = ms.filter (otherB ns k) ++ [b] ∧ isIn (ns ++ m1) b ∧ ndAt (ns ++ m1) b.toNat = ⟨2, U, 0, 0, false⟩ ∧ BytesOf ns k ms U ∧ ∃ y ∈ ms, kd ns y = 2
section
variable {ns : List Nd} (hc : Canon ns) {k : Int} (hk : k = 4 ∨ k = 5)
include hc hk
theorem otherB_up (more : List Nd) {y : Int} (hy : isIn ns y) : otherB (ns ++ more) k y = otherB ns k y := by
  unfold otherB
  rw [kd_up hy, unitB_up hc.fine more hy]
theorem BytesOf.up {ms : List Int} {U : St} (h : BytesOf ns k ms U) (hm : ∀ y ∈ ms, isIn ns y) (more : List Nd) : BytesOf (ns ++ more) k ms U := by
  refine ⟨h.1, fun b hb => ?_⟩
  rw [h.2 b hb]
  constructor
  · rintro ⟨y, hy, h2, h3⟩
    exact ⟨y, hy, by rw [kd_up (hm y hy)]; exact h2, by rw [nd_up (hm y hy)]; exact h3⟩
  · rintro ⟨y, hy, h2, h3⟩
    rw [kd_up (hm y hy)] at h2
    rw [nd_up (hm y hy)] at h3
    exact ⟨y, hy, h2, h3⟩
omit hc hk in
theorem byte_kind {ns : List Nd} {b : Int} {U : St} (h : ndAt ns b.toNat = ⟨2, U, 0, 0, false⟩) : kd ns b = 2 := by unfold kd; rw [h]
omit hc hk in
theorem sorted_mem {L : List Int} {y : Int} : y ∈ sorted L ↔ y ∈ L := (List.mergeSort_perm L _).mem_iff
theorem ListOf.few {l ms L : List Int} {m1 : List Nd} (h : Coll ns k l ms) (hL : ListOf ns m1 k ms L) : L.length ≤ ms.length := by
  rcases hL with ⟨_, rfl, _⟩ | ⟨b, U, rfl, b1, b2, b3, y, hy, h2⟩
  · exact List.length_filter_le _ _
  · rw [List.length_append, List.length_singleton]
    have hno : otherB ns k y = false := by unfold otherB; rw [decide_eq_true h2]; rfl
    have : ∀ (m : List Int), y ∈ m → (m.filter (otherB ns k)).length + 1 ≤ m.length := by
      intro m
      induction m with
      | nil => intro q; cases q
      | cons c m ih =>
        intro q
        by_cases e : c = y
        · subst e
          rw [List.filter_cons, hno]
          have := List.length_filter_le (otherB ns k) m
          simp
          exact this
        · have hm : y ∈ m := by
            rcases List.mem_cons.1 q with q | q
            · exact absurd q.symm e
            · exact q
          have := ih hm
          rw [List.filter_cons]
          split
          · simp; omega
          · simp; omega
    exact this ms hy
theorem ListOf.join {l ms L : List Int} {m1 m2 : List Nd} {r : Int} (h : Coll ns k l ms) (hn : ∀ y ∈ ms, topB ns k y = false) (hL : ListOf ns m1 k ms L) (hc2 : Canon (ns ++ m1 ++ m2)) (hr : IsList (ns ++ m1 ++ m2) k (sorted L) r) : JoinR (ns ++ m1 ++ m2) k l r := by
  have hin : ∀ y ∈ ms, isIn ns y := fun y hy => (h.inn hc hk hy).1
  have hcol : Coll (ns ++ m1 ++ m2) k l ms := by rw [List.append_assoc]; exact h.up hc hk _
  have hn2 : ∀ y ∈ ms, topB (ns ++ m1 ++ m2) k y = false := fun y hy => by rw [List.append_assoc, topB_up hc.fine _ (hin y hy)]; exact hn y hy
  have hkd : ∀ y ∈ ms, kd (ns ++ m1 ++ m2) y = kd ns y := fun y hy => by rw [List.append_assoc, kd_up (hin y hy)]
  have hob : ∀ y ∈ ms, otherB (ns ++ m1 ++ m2) k y = otherB ns k y := fun y hy => by rw [List.append_assoc]; exact otherB_up hc hk _ (hin y hy)
  have hfil : ∀ y, y ∈ ms.filter (otherB ns k) ↔ y ∈ ms ∧ otherB (ns ++ m1 ++ m2) k y = true := fun y => by
    rw [List.mem_filter]
    constructor
    · rintro ⟨q1, q2⟩; exact ⟨q1, by rw [hob y q1]; exact q2⟩
    · rintro ⟨q1, q2⟩; exact ⟨q1, by rw [← hob y q1]; exact q2⟩
  have hno2 : ∀ y ∈ ms.filter (otherB ns k), kd (ns ++ m1 ++ m2) y ≠ 2 := fun y hy => by
    have := ((hfil y).1 hy).2
    unfold otherB at this
    rw [Bool.and_eq_true, Bool.not_eq_true', decide_eq_false_iff_not] at this
    exact this.1
  rcases hL with ⟨_, rfl, hnb⟩ | ⟨b, U, rfl, b1, b2, b3, y, hy, h2⟩
  · refine hcol.made hc2 hk hn2 hr (fun y h2 => by rw [sorted_mem]; exact hfil y) (Or.inr ⟨fun y hy => by rw [hkd y hy]; exact hnb y hy, fun c hc' => hno2 c (sorted_mem.1 hc')⟩)
  · have hb2 : ndAt (ns ++ m1 ++ m2) b.toNat = ⟨2, U, 0, 0, false⟩ := by rw [nd_up b1]; exact b2
    have hbk := byte_kind hb2
    refine hcol.made hc2 hk hn2 hr (fun z h2 => ?_) (Or.inl ⟨b, sorted_mem.2 (List.mem_append_right _ (by simp)), hbk, ⟨y, hy, by rw [hkd y hy]; exact h2⟩, ?_, fun c hc' h3 => ?_⟩)
    · rw [sorted_mem, List.mem_append, hfil z]
      constructor
      · rintro (q | q)
        · exact q
        · rw [List.mem_singleton.1 q] at h2; exact absurd hbk h2
      · intro q; exact Or.inl q
    · rw [hb2, List.append_assoc]
      exact b3.up hc hk hin _
    · rcases List.mem_append.1 (sorted_mem.1 hc') with q | q
      · exact absurd h3 (hno2 c q)
      · exact List.mem_singleton.1 q
end
section
variable {AA : World → Value → List Nd → (Nat → Prop) → Prop}
end

end Go.Proofs.YthifbaacmohmnaaGreat

/- What set.Union and Not answer, of any sets. -/
namespace Go.Proofs.YthifbaacmohmnaaGreat
open Go.RowKit

set_option maxHeartbeats 1000000 in
theorem setUnion (s t : St) (hs : s.Ok) (ht : t.Ok) (w : World) :
    Calls Tryz.prog 127 #[.agg #[.int .u64 s.w0, .int .u64 s.w1, .int .u64 s.w2, .int .u64 s.w3], .agg #[.int .u64 t.w0, .int .u64 t.w1, .int .u64 t.w2, .int .u64 t.w3]] w fun e w' =>
      e = .returned (.agg #[.int .u64 (s.or t).w0, .int .u64 (s.or t).w1, .int .u64 (s.or t).w2, .int .u64 (s.or t).w3]) ∧ Below w.heap.size w w' := by
  have b0 := bits_or s.w0 t.w0 hs.o0 ht.o0
  have b1 := bits_or s.w1 t.w1 hs.o1 ht.o1
  have b2 := bits_or s.w2 t.w2 hs.o2 ht.o2
  have b3 := bits_or s.w3 t.w3 hs.o3 ht.o3
  go_enter Tryz.func127, Tryz.ntmps127
  go_wp2
  refine wp_loop_rounds 5 ?_
  iterate 4
    rw [rounds_succ]
    go_wp2
    go_region
    go_wp2
  rw [rounds_succ]
  go_wp2
  refine bodyPost_ret (v := .agg #[.int .u64 (s.or t).w0, .int .u64 (s.or t).w1, .int .u64 (s.or t).w2, .int .u64 (s.or t).w3]) (by simp [results, Tryz.results127, go_sem, St.or]) rfl ⟨rfl, ?_⟩
  repeat (first | exact Below.refl _ _ | refine Below.drew ?_ | refine Below.alloc ?_ (by simp; try omega) _)

set_option maxHeartbeats 1000000 in
theorem setNot (s : St) (hs : s.Ok) (w : World) :
    Calls Tryz.prog 129 #[.agg #[.int .u64 s.w0, .int .u64 s.w1, .int .u64 s.w2, .int .u64 s.w3]] w fun e w' =>
      e = .returned (.agg #[.int .u64 s.not.w0, .int .u64 s.not.w1, .int .u64 s.not.w2, .int .u64 s.not.w3]) ∧ Below w.heap.size w w' := by
  have b0 := bits_not s.w0 hs.o0
  have b1 := bits_not s.w1 hs.o1
  have b2 := bits_not s.w2 hs.o2
  have b3 := bits_not s.w3 hs.o3
  go_enter Tryz.func129, Tryz.ntmps129
  go_wp2
  refine wp_loop_rounds 5 ?_
  iterate 4
    rw [rounds_succ]
    go_wp2
  rw [rounds_succ]
  go_wp2
  refine bodyPost_ret (v := .agg #[.int .u64 s.not.w0, .int .u64 s.not.w1, .int .u64 s.not.w2, .int .u64 s.not.w3]) (by simp [results, Tryz.results129, go_sem, St.not]) rfl ⟨rfl, ?_⟩
  repeat (first | exact Below.refl _ _ | refine Below.drew ?_ | refine Below.alloc ?_ (by simp; try omega) _)

end Go.Proofs.YthifbaacmohmnaaGreat
