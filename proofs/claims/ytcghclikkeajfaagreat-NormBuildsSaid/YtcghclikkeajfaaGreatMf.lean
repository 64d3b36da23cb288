/- Joined: NormLen, NormStep, NormPut, NormJoin, NormJoinM, NormMemM, LawLaws10. -/
import Derived.Test.YtcghclikkeajfaaGreatMe
import Derived.Test.YtcghclikkeajfaaGreatMv
import Derived.Test.YtcghclikkeajfaaGreatMu
/- How long what is put together gets: mathematics; no program is named. -/
namespace Go.Proofs.YtcghclikkeajfaaGreat
open Go.RowKit
set_option linter.unusedSimpArgs false
set_option linter.unusedVariables false
set_option linter.unusedSectionVars false

section
variable {ns : List Nd} (hc : Canon ns) {k : Int} (hk : k = 4 ∨ k = 5)
include hc hk
/-- A member of what is put together is a member of one that it is put together of, or a Bytes. -/
theorem join_member {l : List Int} {r y : Int} (hl : ∀ x ∈ l, isIn ns x) (h : JoinR ns k l r) (ht : topB ns k r = false) (hu : unitB ns k r = false) (hy : y ∈ mem ns k r) : (∃ x ∈ l, y ∈ mem ns k x ∧ topB ns k x = false ∧ unitB ns k x = false) ∨ (kd ns y = 2 ∧ ∃ x ∈ l, topB ns k x = false ∧ unitB ns k x = false ∧ ∃ z ∈ mem ns k x, kd ns z = 2) := by
  have hns : ¬ Shuts k (fun a => l.any (fun x => view ns k x a)) := fun q => by
    have := h.2 .top
    rw [clos_yes q, view_top, ht] at this; cases this
  have hv : ∀ a, view ns k r a = l.any (fun x => view ns k x a) := fun a => by rw [h.2, clos_no hns]
  have htop : ∀ x ∈ l, topB ns k x = false := fun x hx => by
    have q := hv .top
    rw [view_top, ht] at q
    have := List.any_eq_false.1 q.symm x hx
    rw [view_top] at this
    simpa using this
  have hun : ∀ x ∈ l, ∀ a, view ns k x a = true → unitB ns k x = false := fun x hx a ha => by
    cases q : unitB ns k x with
    | false => rfl
    | true => rw [view_unit hc hk (hl x hx) q] at ha; cases ha
  by_cases e : kd ns y = 2
  · right
    have hs := view_some hc hk h.1 ht hy e
    rw [hv, List.any_eq_true] at hs
    obtain ⟨x, hx, hs⟩ := hs
    refine ⟨e, x, hx, htop x hx, hun x hx _ hs, ?_⟩
    unfold view at hs
    rw [htop x hx, Bool.false_or, List.any_eq_true] at hs
    obtain ⟨z, hz, h2⟩ := hs
    exact ⟨z, hz, of_decide_eq_true h2⟩
  · left
    have ho := (view_oth hc hk h.1 ht hu e).2 hy
    rw [hv, List.any_eq_true] at ho
    obtain ⟨x, hx, ho⟩ := ho
    exact ⟨x, hx, (view_oth hc hk (hl x hx) (htop x hx) (hun x hx _ ho) e).1 ho, htop x hx, hun x hx _ ho⟩
omit hc hk in
theorem sub_len : ∀ {l m : List Int}, l.Pairwise (· < ·) → (∀ z ∈ l, z ∈ m) → l.length ≤ m.length
  | [], _, _, _ => Nat.zero_le _
  | x :: l, m, hp, h => by
    obtain ⟨h1, h2⟩ := List.pairwise_cons.1 hp
    have hx : x ∈ m := h x (by simp)
    have ih := sub_len (m := m.erase x) h2 (fun z hz => (List.mem_erase_of_ne (by have := h1 z hz; omega)).2 (h z (List.mem_cons_of_mem _ hz)))
    have := List.length_erase_of_mem hx
    have hpos : 0 < m.length := List.length_pos_of_mem hx
    rw [List.length_cons]
    omega
end
theorem catN_le {ns : List Nd} {x y r : Int} (h : CatR ns x y r) : catN ns r ≤ catN ns x + catN ns y := by
  unfold catN
  rw [h.2]
  cases catV ns x <;> cases catV ns y <;> simp [catJ]
theorem cat_which {ns : List Nd} (hc : Canon ns) {x y r : Int} (hx : isIn ns x) (hy : isIn ns y) (h : CatR ns x y r) : r = x ∨ r = y ∨ kd ns r = 3 ∨ kd ns r = 0 ∨ kd ns r = 1 := by
  by_cases r3 : kd ns r = 3
  · exact Or.inr (Or.inr (Or.inl r3))
  by_cases r0 : kd ns r = 0
  · exact Or.inr (Or.inr (Or.inr (Or.inl r0)))
  by_cases r1 : kd ns r = 1
  · exact Or.inr (Or.inr (Or.inr (Or.inr r1)))
  have hr := cat_leaf (ns := ns) r0 r1 r3
  have e := h.2
  rw [hr] at e
  cases hcx : catV ns x with
  | none => rw [hcx] at e; cases catV ns y <;> simp [catJ] at e
  | some l =>
    cases hcy : catV ns y with
    | none => rw [hcx, hcy] at e; simp [catJ] at e
    | some m =>
      rw [hcx, hcy] at e
      have e : [r] = l ++ m := by simpa [catJ] using e
      cases l with
      | nil => right; left; exact cat_inj hc _ r y (Nat.le_refl _) h.1 hy (by rw [hr, hcy]; simpa using e)
      | cons a l =>
        have e' := e
        simp at e'
        obtain ⟨rfl, e2, e3⟩ := e'
        left
        exact cat_inj hc _ r x (Nat.le_refl _) h.1 hx (by rw [hr, hcx, e2])

end Go.Proofs.YtcghclikkeajfaaGreat

/- One step of a walk that puts nodes together: where the arena stands, what came, what was answered. -/
namespace Go.Proofs.YtcghclikkeajfaaGreat
open Go.RowKit
set_option linter.unusedSimpArgs false
set_option linter.unusedVariables false

def Up (ns ns' : List Nd) : Prop := ∃ more, ns' = ns ++ more
theorem Up.refl (ns : List Nd) : Up ns ns := ⟨[], by rw [List.append_nil]⟩
theorem Up.trans {a b c : List Nd} (h : Up a b) (h' : Up b c) : Up a c := by
  obtain ⟨x, rfl⟩ := h
  obtain ⟨y, rfl⟩ := h'
  exact ⟨x ++ y, by rw [List.append_assoc]⟩
/-- How many members and parts a node has at most. -/
def LenB (ns : List Nd) (W4 W5 W3 : Nat) (x : Int) : Prop := isIn ns x ∧ (mem ns 4 x).length ≤ W4 ∧ (mem ns 5 x).length ≤ W5 ∧ catN ns x ≤ W3
theorem LenB.up {ns ns' : List Nd} (hf : FineN ns) {W4 W5 W3 : Nat} {x : Int} (h : LenB ns W4 W5 W3 x) (hu : Up ns ns') : LenB ns' W4 W5 W3 x := by
  obtain ⟨more, rfl⟩ := hu
  obtain ⟨h0, h4, h5, h3⟩ := h
  refine ⟨h0.up more, ?_, ?_, ?_⟩
  · rw [mem_up hf (Or.inl rfl) more _ x (Nat.le_refl _) h0]; exact h4
  · rw [mem_up hf (Or.inr rfl) more _ x (Nat.le_refl _) h0]; exact h5
  · unfold catN; rw [catV_up hf more h0]; exact h3
theorem LenB.mono {ns : List Nd} {W4 W5 W3 V4 V5 V3 : Nat} {x : Int} (h : LenB ns W4 W5 W3 x) (h4 : W4 ≤ V4) (h5 : W5 ≤ V5) (h3 : W3 ≤ V3) : LenB ns V4 V5 V3 x :=
  ⟨h.1, Nat.le_trans h.2.1 h4, Nat.le_trans h.2.2.1 h5, Nat.le_trans h.2.2.2 h3⟩
theorem isIn.upTo {ns ns' : List Nd} {x : Int} (h : isIn ns x) (hu : Up ns ns') : isIn ns' x := by obtain ⟨more, rfl⟩ := hu; exact h.up more
theorem kd_upTo {ns ns' : List Nd} {x : Int} (h : isIn ns x) (hu : Up ns ns') : kd ns' x = kd ns x := by obtain ⟨more, rfl⟩ := hu; exact kd_up h more
theorem isAl_upTo {ns ns' : List Nd} (hf : FineN ns) {x : Int} (h : isIn ns x) (hu : Up ns ns') : isAl ns' x = isAl ns x := by obtain ⟨more, rfl⟩ := hu; exact isAl_up hf more h
theorem JoinR.upTo {ns ns' : List Nd} (hf : FineN ns) {k : Int} {l : List Int} {r : Int} (hk : k = 4 ∨ k = 5) (h : JoinR ns k l r) (hl : ∀ x ∈ l, isIn ns x) (hu : Up ns ns') : JoinR ns' k l r := by obtain ⟨more, rfl⟩ := hu; exact h.up hf more hk hl
theorem CatR.upTo {ns ns' : List Nd} (hf : FineN ns) {x y r : Int} (h : CatR ns x y r) (hx : isIn ns x) (hy : isIn ns y) (hu : Up ns ns') : CatR ns' x y r := by obtain ⟨more, rfl⟩ := hu; exact h.up hf more hx hy
theorem NotR.upTo {ns ns' : List Nd} {x r : Int} (h : NotR ns x r) (hx : isIn ns x) (hu : Up ns ns') : NotR ns' x r := by obtain ⟨more, rfl⟩ := hu; exact h.up hx more
theorem StarR.upTo {ns ns' : List Nd} {x r : Int} (h : StarR ns x r) (hx : isIn ns x) (hu : Up ns ns') : StarR ns' x r := by obtain ⟨more, rfl⟩ := hu; exact h.up hx more
section
variable {AA : World → Value → List Nd → (Nat → Prop) → Prop}
structure LSt (AA : World → Value → List Nd → (Nat → Prop) → Prop) (w0 w : World) (a : Value) (ns0 : List Nd) (F0 : Nat → Prop) (m : Nat) (ns : List Nd) : Prop where
  ex : ∃ F, AA w a ns F ∧ (∀ b, F b → F0 b ∨ w0.heap.size ≤ b) ∧ OffF F0 w0 w
  up : Up ns0 ns
  few : ns.length ≤ ns0.length + m
  canon : Canon ns
variable (S : ArenaBig AA) (N : NormSpec AA) {w0 w : World} {a : Value} {ns0 ns : List Nd} {F0 : Nat → Prop} {m : Nat}
theorem LSt.start {F : Nat → Prop} (h : AA w a ns F) (hc : Canon ns) : LSt AA w w a ns F 0 ns := ⟨⟨F, h, fun b q => Or.inl q, OffF.of (Below.refl _ _)⟩, Up.refl _, Nat.le_refl _, hc⟩
include S in
theorem LSt.next {w' : World} (h : LSt AA w0 w a ns0 F0 m ns) (hb : Below w.heap.size w w') : LSt AA w0 w' a ns0 F0 m ns := by
  obtain ⟨F, h1, h2, h3⟩ := h.ex
  exact ⟨⟨F, S.next h1 hb, h2, h3.then hb⟩, h.up, h.few, h.canon⟩
include S in
theorem LSt.alloc (h : LSt AA w0 w a ns0 F0 m ns) (o : Obj) : LSt AA w0 (w.alloc o) a ns0 F0 m ns := h.next S ((Below.refl _ _).alloc (Nat.le_refl _) o)
theorem LSt.mono {m' : Nat} (h : LSt AA w0 w a ns0 F0 m ns) (hm : m ≤ m') : LSt AA w0 w a ns0 F0 m' ns := ⟨h.ex, h.up, Nat.le_trans h.few (by omega), h.canon⟩
theorem LSt.grown {F : Nat → Prop} {R : List Nd → Int → Prop} {e : Ending} {w' : World} {c : Nat} (h : LSt AA w0 w a ns0 F0 m ns) (h1 : AA w a ns F) (h2 : ∀ b, F b → F0 b ∨ w0.heap.size ≤ b) (h3 : OffF F0 w0 w) (g : Grows AA w a ns F R e w') (hR : ∀ more r, R more r → more.length ≤ c) :
    ∃ r more, e = .returned (.int .i64 r) ∧ LSt AA w0 w' a ns0 F0 (m + c) (ns ++ more) ∧ isIn (ns ++ more) r ∧ R more r := by
  obtain ⟨r, more, F', rfl, g1, g2, g3, g4, g5, g6⟩ := g
  have hl := hR more r g6
  refine ⟨r, more, rfl, ⟨⟨F', g1, fun b q => ?_, h3.off g3 h2⟩, h.up.trans ⟨more, rfl⟩, ?_, g4⟩, g5, g6⟩
  · rcases g2 b q with q | q
    · exact h2 b q
    · exact Or.inr (Nat.le_trans h3.size q)
  · rw [List.length_append]; have := h.few; omega
include N
end

end Go.Proofs.YtcghclikkeajfaaGreat

/- A node that is put where all are as they should be: mathematics; no program is named. -/
namespace Go.Proofs.YtcghclikkeajfaaGreat
open Go.RowKit
set_option linter.unusedSimpArgs false
set_option linter.unusedVariables false
set_option linter.unusedSectionVars false

/-- A node that may be put so that what is alike is one. -/
structure Fits (ns : List Nd) (x : Nd) : Prop where
  cat : x.kind = 3 → (kd ns x.a ≠ 0 ∧ kd ns x.a ≠ 1 ∧ kd ns x.a ≠ 3) ∧ kd ns x.b ≠ 0 ∧ kd ns x.b ≠ 1
  join : ∀ k, k = 4 ∨ k = 5 → x.kind = k → kd ns x.a ≠ k ∧ (x.a :: mem ns k x.b).Pairwise (· < ·) ∧ (∀ y ∈ x.a :: mem ns k x.b, topB ns k y = false ∧ unitB ns k y = false) ∧ (∀ y ∈ x.a :: mem ns k x.b, ∀ z ∈ x.a :: mem ns k x.b, kd ns y = 2 → kd ns z = 2 → y = z)
  not : x.kind = 6 → kd ns x.a ≠ 6
  star : x.kind = 7 → kd ns x.a ≠ 0 ∧ kd ns x.a ≠ 1 ∧ kd ns x.a ≠ 7
  bytes : x.kind = 2 → ∃ b, b < 256 ∧ x.set.has b = true
theorem fine_snoc {ns : List Nd} {x : Nd} (hf : FineN ns) (hr : x.right ns.length = true) (hx : NdFit x) (hn : ¬ findN ns x < ns.length) : FineN (ns ++ [x]) := by
  have hl : (ns ++ [x]).length = ns.length + 1 := by rw [List.length_append]; rfl
  have hat : ∀ j, j < ns.length → ndAt (ns ++ [x]) j = ndAt ns j := fun j hj => by unfold ndAt; rw [List.getElem?_append_left hj]
  have hlast : ndAt (ns ++ [x]) ns.length = x := by unfold ndAt; rw [List.getElem?_append_right (Nat.le_refl _), Nat.sub_self]; rfl
  have hne : ∀ j, j < ns.length → ndAt ns j ≠ x := fun j hj e => hn (by
    rcases Nat.lt_or_ge (findN ns x) ns.length with h | h
    · exact h
    · have h1 := findN_not (ns := ns) (x := x) (t := j) (by omega)
      rw [e, Nd.eqb_self] at h1; cases h1)
  refine ⟨fun j hj => ?_, fun i j hi hj e => ?_⟩
  · rw [hl] at hj
    by_cases c : j < ns.length
    · rw [hat j c]; exact hf.1 j c
    · obtain rfl : j = ns.length := by omega
      rw [hlast]; exact ⟨hr, hx⟩
  · rw [hl] at hi hj
    by_cases c : i < ns.length
    · by_cases d : j < ns.length
      · rw [hat i c, hat j d] at e; exact hf.2 i j c d e
      · obtain rfl : j = ns.length := by omega
        rw [hat i c, hlast] at e; exact absurd e (hne i c)
    · obtain rfl : i = ns.length := by omega
      by_cases d : j < ns.length
      · rw [hlast, hat j d] at e; exact absurd e.symm (hne j d)
      · omega
theorem right_in {ns : List Nd} {x : Nd} (h : x.right ns.length = true) (hf : NdFit x) : (x.kind = 3 ∨ x.kind = 4 ∨ x.kind = 5 → isIn ns x.a ∧ isIn ns x.b) ∧ (x.kind = 6 ∨ x.kind = 7 → isIn ns x.a) := by
  have ho := right_ok h hf
  exact ⟨fun k => ⟨⟨(ho.2.1 k).1, (ho.2.1 k).2.1⟩, (ho.2.1 k).2.2⟩, fun k => ho.2.2.1 k⟩
/-- What is put may stand there. -/
theorem canon_put {ns : List Nd} {x : Nd} (hc : Canon ns) (hr : x.right ns.length = true) (hx : NdFit x) (hl : Fits ns x) :
    Canon (putS ns x) ∧ isIn (putS ns x) (putId ns x) ∧ ndAt (putS ns x) (putId ns x).toNat = x ∧ (∃ more, putS ns x = ns ++ more ∧ more.length ≤ 1) ∧ (isIn ns (putId ns x) → putS ns x = ns) := by
  have hid : putId ns x = (findN ns x : Int) := by unfold putId; rw [if_pos hr]
  obtain ⟨p1, p2⟩ := put_at (ns := ns) hr
  have hle := findN_le ns x
  by_cases hlt : findN ns x < ns.length
  · have hps : putS ns x = ns := by unfold putS; rw [if_pos hr, if_pos hlt]
    rw [hps] at p1 p2 ⊢
    refine ⟨hc, ?_, by rw [hid, Int.toNat_natCast]; exact p2, ⟨[], by rw [List.append_nil], by simp⟩, fun _ => rfl⟩
    rw [hid]; unfold isIn; omega
  · have hps : putS ns x = ns ++ [x] := by unfold putS; rw [if_pos hr, if_neg hlt]
    have hfe : findN ns x = ns.length := by omega
    have hlen : (ns ++ [x]).length = ns.length + 1 := by rw [List.length_append]; rfl
    rw [hps] at p1 p2 ⊢
    have hfine := fine_snoc hc.fine hr hx hlt
    have hnew : ndAt (ns ++ [x]) (ns.length : Int).toNat = x := by rw [Int.toNat_natCast, ← hfe]; exact p2
    have hcase : ∀ y, isIn (ns ++ [x]) y → isIn ns y ∨ y = (ns.length : Int) := fun y hy => by
      unfold isIn at *
      rw [hlen] at hy
      omega
    obtain ⟨r2, r1⟩ := right_in hr hx
    have kn : kd (ns ++ [x]) (ns.length : Int) = x.kind := by unfold kd; rw [hnew]
    have an : ka (ns ++ [x]) (ns.length : Int) = x.a := by unfold ka; rw [hnew]
    have bn : kb (ns ++ [x]) (ns.length : Int) = x.b := by unfold kb; rw [hnew]
    refine ⟨⟨hfine, fun y hy k3 => ?_, fun k hk y hy ke => ?_, fun y hy k6 => ?_, fun y hy k7 => ?_, fun y hy k2 => ?_⟩, by rw [hid, hfe]; unfold isIn; omega, by rw [hid, hfe]; exact hnew, ⟨[x], rfl, by simp⟩, fun h => by rw [hid, hfe] at h; unfold isIn at h; omega⟩
    · rcases hcase y hy with q | q
      · rw [kd_up q] at k3
        rw [ka_up q, kb_up q]
        obtain ⟨⟨a0, _⟩, b0, _⟩ := in_two hc.fine q (Or.inl k3)
        rw [kd_up a0, kd_up b0]
        exact hc.cat y q k3
      · subst q
        rw [kn] at k3
        rw [an, bn]
        obtain ⟨a0, b0⟩ := r2 (Or.inl k3)
        rw [kd_up a0, kd_up b0]
        exact hl.cat k3
    · rcases hcase y hy with q | q
      · rw [kd_up q] at ke
        rw [ka_up q, mem_up hc.fine hk [x] _ y (Nat.le_refl _) q]
        obtain ⟨⟨a0, _⟩, b0, _⟩ := in_two hc.fine q (by omega)
        rw [kd_up a0]
        obtain ⟨j1, j2, j3, j4⟩ := hc.join k hk y q ke
        have hin : ∀ z ∈ mem ns k y, isIn ns z := fun z hz => (mem_in hc.fine hk _ y (Nat.le_refl _) q z hz).1
        refine ⟨j1, j2, fun z hz => ?_, fun z hz u hu e1 e2 => ?_⟩
        · rw [topB_up hc.fine [x] (hin z hz), unitB_up hc.fine [x] (hin z hz)]; exact j3 z hz
        · rw [kd_up (hin z hz)] at e1
          rw [kd_up (hin u hu)] at e2
          exact j4 z hz u hu e1 e2
      · subst q
        rw [kn] at ke
        obtain ⟨a0, b0⟩ := r2 (by omega)
        obtain ⟨j1, j2, j3, j4⟩ := hl.join k hk ke
        have hm : mem (ns ++ [x]) k (ns.length : Int) = x.a :: mem ns k x.b := by
          rw [mem_node hfine hk hy (by rw [kn, ke]), an, bn, mem_up hc.fine hk [x] _ x.a (Nat.le_refl _) a0, mem_up hc.fine hk [x] _ x.b (Nat.le_refl _) b0, mem_leaf j1]; rfl
        have hin : ∀ z ∈ x.a :: mem ns k x.b, isIn ns z := fun z hz => by
          rcases List.mem_cons.1 hz with rfl | hz
          · exact a0
          · exact (mem_in hc.fine hk _ x.b (Nat.le_refl _) b0 z hz).1
        rw [an, kd_up a0, hm]
        refine ⟨j1, j2, fun z hz => ?_, fun z hz u hu e1 e2 => ?_⟩
        · rw [topB_up hc.fine [x] (hin z hz), unitB_up hc.fine [x] (hin z hz)]; exact j3 z hz
        · rw [kd_up (hin z hz)] at e1
          rw [kd_up (hin u hu)] at e2
          exact j4 z hz u hu e1 e2
    · rcases hcase y hy with q | q
      · rw [kd_up q] at k6
        rw [ka_up q, kd_up (in_one hc.fine q (Or.inl k6)).1]
        exact hc.not y q k6
      · subst q
        rw [kn] at k6
        rw [an, kd_up (r1 (Or.inl k6))]
        exact hl.not k6
    · rcases hcase y hy with q | q
      · rw [kd_up q] at k7
        rw [ka_up q, kd_up (in_one hc.fine q (Or.inr k7)).1]
        exact hc.star y q k7
      · subst q
        rw [kn] at k7
        rw [an, kd_up (r1 (Or.inr k7))]
        exact hl.star k7
    · rcases hcase y hy with q | q
      · rw [kd_up q] at k2
        rw [nd_up q]
        exact hc.bytes y q k2
      · subst q
        rw [kn] at k2
        rw [hnew]
        exact hl.bytes k2

end Go.Proofs.YtcghclikkeajfaaGreat

/- How what is put together is made, member by member: mathematics; no program is named. -/
namespace Go.Proofs.YtcghclikkeajfaaGreat
open Go.RowKit
set_option linter.unusedSimpArgs false
set_option linter.unusedVariables false
set_option linter.unusedSectionVars false

section
variable {ns : List Nd} (hc : Canon ns) {k : Int} (hk : k = 4 ∨ k = 5)
theorem view_hit {x : Int} (ht : topB ns k x = false) (a : Atom) : view ns k x a = true ↔ ∃ y ∈ mem ns k x, hit ns k y a = true := by
  unfold view
  rw [ht, Bool.false_or, List.any_eq_true]
include hc hk
/-- By members: r has those of the others, its Bytes what theirs have together. -/
theorem join_of_list {ls : List Int} {r : Int} (hls : ∀ x ∈ ls, isIn ns x) (hr : isIn ns r) (tr : topB ns k r = false) (htop : ∀ x ∈ ls, topB ns k x = false)
    (hoth : ∀ y, kd ns y ≠ 2 → unitB ns k y = false → (y ∈ mem ns k r ↔ ∃ x ∈ ls, y ∈ mem ns k x))
    (hsome : (∃ y ∈ mem ns k r, kd ns y = 2) ↔ ∃ x ∈ ls, ∃ y ∈ mem ns k x, kd ns y = 2)
    (hbyte : ∀ b, b < 256 → ((∃ y ∈ mem ns k r, kd ns y = 2 ∧ ((ndAt ns y.toNat).set.has b != decide (k = 5)) = true) ↔ ∃ x ∈ ls, ∃ z ∈ mem ns k x, kd ns z = 2 ∧ ((ndAt ns z.toNat).set.has b != decide (k = 5)) = true)) : JoinR ns k ls r := by
  have hv : ∀ a, view ns k r a = ls.any (fun x => view ns k x a) := fun a => bool_iff (by
    rw [view_hit tr, List.any_eq_true]
    have hany : (∃ x ∈ ls, view ns k x a = true) ↔ ∃ x ∈ ls, ∃ y ∈ mem ns k x, hit ns k y a = true :=
      ⟨fun ⟨x, hx, h⟩ => ⟨x, hx, (view_hit (htop x hx) a).1 h⟩, fun ⟨x, hx, h⟩ => ⟨x, hx, (view_hit (htop x hx) a).2 h⟩⟩
    rw [hany]
    cases a with
    | top =>
      constructor
      · rintro ⟨y, _, h⟩; cases h
      · rintro ⟨x, _, y, _, h⟩; cases h
    | oth z =>
      have e : ∀ y, hit ns k y (.oth z) = true ↔ y = z ∧ kd ns z ≠ 2 ∧ unitB ns k z = false := fun y => by
        show (decide (y = z) && (!decide (kd ns y = 2) && !unitB ns k y)) = true ↔ _
        rw [Bool.and_eq_true, Bool.and_eq_true, decide_eq_true_eq]
        constructor
        · rintro ⟨rfl, h1, h2⟩
          exact ⟨rfl, by simpa using h1, by simpa using h2⟩
        · rintro ⟨rfl, h1, h2⟩
          exact ⟨rfl, by simpa using h1, by simpa using h2⟩
      constructor
      · rintro ⟨y, hy, h⟩
        obtain ⟨rfl, h1, h2⟩ := (e y).1 h
        obtain ⟨x, hx, hm⟩ := (hoth y h1 h2).1 hy
        exact ⟨x, hx, y, hm, h⟩
      · rintro ⟨x, hx, y, hy, h⟩
        obtain ⟨rfl, h1, h2⟩ := (e y).1 h
        exact ⟨y, (hoth y h1 h2).2 ⟨x, hx, hy⟩, h⟩
    | some =>
      have e : ∀ y, hit ns k y .some = true ↔ kd ns y = 2 := fun y => decide_eq_true_iff
      constructor
      · rintro ⟨y, hy, h⟩
        obtain ⟨x, hx, z, hz, h2⟩ := hsome.1 ⟨y, hy, (e y).1 h⟩
        exact ⟨x, hx, z, hz, (e z).2 h2⟩
      · rintro ⟨x, hx, z, hz, h⟩
        obtain ⟨y, hy, h2⟩ := hsome.2 ⟨x, hx, z, hz, (e z).1 h⟩
        exact ⟨y, hy, (e y).2 h2⟩
    | byte b =>
      have e : ∀ y, hit ns k y (.byte b) = true ↔ b < 256 ∧ kd ns y = 2 ∧ ((ndAt ns y.toNat).set.has b != decide (k = 5)) = true := fun y => by
        show (decide (b < 256) && (decide (kd ns y = 2) && _)) = true ↔ _
        rw [Bool.and_eq_true, Bool.and_eq_true, decide_eq_true_eq, decide_eq_true_eq]
      constructor
      · rintro ⟨y, hy, h⟩
        obtain ⟨hb, h1, h2⟩ := (e y).1 h
        obtain ⟨x, hx, z, hz, h3⟩ := (hbyte b hb).1 ⟨y, hy, h1, h2⟩
        exact ⟨x, hx, z, hz, (e z).2 ⟨hb, h3⟩⟩
      · rintro ⟨x, hx, z, hz, h⟩
        obtain ⟨hb, h1, h2⟩ := (e z).1 h
        obtain ⟨y, hy, h3⟩ := (hbyte b hb).2 ⟨x, hx, z, hz, h1, h2⟩
        exact ⟨y, hy, (e y).2 ⟨hb, h3⟩⟩)
  refine ⟨hr, fun a => ?_⟩
  rw [clos_no, hv]
  intro hs
  have : Shuts k (view ns k r) := by
    rcases hs with hs | ⟨h5, hs⟩
    · exact Or.inl (by rw [hv]; exact hs)
    · exact Or.inr ⟨h5, fun b hb => by rw [hv]; exact hs b hb⟩
  rw [view_shut hc hk hr this] at tr
  cases tr
/-- One that takes all. -/
theorem join_of_top {ls : List Int} {t : Int} (ht : isIn ns t) (hb : topB ns k t = true) (hx : ∃ x ∈ ls, topB ns k x = true) : JoinR ns k ls t :=
  ⟨ht, fun a => by
    have hv : view ns k t a = true := by unfold view; rw [hb, Bool.true_or]
    rw [hv, clos_yes (Or.inl ?_)]
    obtain ⟨x, hx, h⟩ := hx
    exact List.any_eq_true.2 ⟨x, hx, by rw [view_top]; exact h⟩⟩
/-- None but those that do nothing. -/
theorem join_of_units {ls : List Int} {u : Int} (hls : ∀ x ∈ ls, isIn ns x) (hu : isIn ns u) (hb : unitB ns k u = true) (hx : ∀ x ∈ ls, unitB ns k x = true) : JoinR ns k ls u :=
  ⟨hu, fun a => by
    have hv : ∀ a, ls.any (fun x => view ns k x a) = false := fun a => by
      rw [List.any_eq_false]
      intro x hm
      rw [view_unit hc hk (hls x hm) (hx x hm)]
      simp
    rw [view_unit hc hk hu hb, clos_no, hv]
    rintro (h | ⟨_, h⟩)
    · have h : ls.any (fun x => view ns k x .top) = true := h
      rw [hv] at h; cases h
    · have h : ls.any (fun x => view ns k x (.byte 0)) = true := h 0 (by omega)
      rw [hv] at h; cases h⟩
omit hc hk in
/-- Bytes that have nothing in common. -/
theorem join_of_shut {ls : List Int} {t : Int} (ht : isIn ns t) (hb : topB ns 5 t = true) (hx : ∀ b, b < 256 → ∃ x ∈ ls, ∃ z ∈ mem ns 5 x, kd ns z = 2 ∧ (ndAt ns z.toNat).set.has b = false) : JoinR ns 5 ls t :=
  ⟨ht, fun a => by
    have hv : view ns 5 t a = true := by unfold view; rw [hb, Bool.true_or]
    rw [hv, clos_yes (Or.inr ⟨rfl, fun b h256 => ?_⟩)]
    obtain ⟨x, hx, z, hz, h2, hh⟩ := hx b h256
    rw [List.any_eq_true]
    refine ⟨x, hx, ?_⟩
    unfold view
    rw [Bool.or_eq_true, List.any_eq_true]
    refine Or.inr ⟨z, hz, ?_⟩
    show (decide (b < 256) && (decide (kd ns z = 2) && ((ndAt ns z.toNat).set.has b != decide ((5 : Int) = 5)))) = true
    rw [decide_eq_true h256, decide_eq_true h2, hh]
    rfl⟩
end
/-- r is the node of those members. -/
structure IsList (ns : List Nd) (k : Int) (fl : List Int) (r : Int) : Prop where
  ne : fl ≠ []
  inn : isIn ns r
  mems : mem ns k r = fl
  top : topB ns k r = false
  unit : unitB ns k r = false
theorem IsList.up {ns : List Nd} {k : Int} {fl : List Int} {r : Int} (h : IsList ns k fl r) (hk : k = 4 ∨ k = 5) (hf : FineN ns) (more : List Nd) : IsList (ns ++ more) k fl r :=
  ⟨h.ne, h.inn.up more, by rw [mem_up hf hk more _ r (Nat.le_refl _) h.inn]; exact h.mems, by rw [topB_up hf more h.inn]; exact h.top, by rw [unitB_up hf more h.inn]; exact h.unit⟩
theorem IsList.one {ns : List Nd} {k x : Int} (hx : isIn ns x) (hk : kd ns x ≠ k) (ht : topB ns k x = false) (hu : unitB ns k x = false) : IsList ns k [x] x := ⟨by simp, hx, mem_leaf hk, ht, hu⟩
/-- One more ahead: what is put, and what it is then. -/
theorem IsList.cons {ns : List Nd} (hc : Canon ns) {k : Int} (hk : k = 4 ∨ k = 5) {fl : List Int} {a r : Int} (h : IsList ns k fl r) (ha : isIn ns a) (hka : kd ns a ≠ k) (hta : topB ns k a = false) (hua : unitB ns k a = false) (hlt : ∀ y ∈ fl, a < y) (hby : kd ns a = 2 → ∀ y ∈ fl, kd ns y ≠ 2) (hmax : ns.length ≤ 20000) :
    (Nd.mk k noSt a r false).right ns.length = true ∧ NdFit (Nd.mk k noSt a r false) ∧ Fits ns (Nd.mk k noSt a r false) ∧ IsList (putS ns (Nd.mk k noSt a r false)) k (a :: fl) (putId ns (Nd.mk k noSt a r false)) := by
  have hi := h.inn
  unfold isIn at ha hi
  have hr : (Nd.mk k noSt a r false).right ns.length = true := by
    unfold Nd.right aIn
    rw [if_neg (by dsimp only; omega), if_neg (by dsimp only; omega), if_pos (by dsimp only; omega), Nd.eqb_self]
    dsimp only
    rw [decide_eq_true ha.1, decide_eq_true ha.2, decide_eq_true hi.1, decide_eq_true hi.2]; rfl
  have hx : NdFit (Nd.mk k noSt a r false) := ⟨by unfold I64; dsimp only; omega, ⟨by unfold U64; exact Nat.zero_lt_succ _, by unfold U64; exact Nat.zero_lt_succ _, by unfold U64; exact Nat.zero_lt_succ _, by unfold U64; exact Nat.zero_lt_succ _⟩, by unfold I64; dsimp only; omega, by unfold I64; dsimp only; omega⟩
  obtain ⟨e1, e2, e3⟩ := els hc hk h.inn h.top h.unit
  rw [h.mems] at e1 e2 e3
  have hl : Fits ns (Nd.mk k noSt a r false) := by
    refine ⟨fun q => by dsimp only at q; omega, fun k' hk' q => ?_, fun q => by dsimp only at q; omega, fun q => by dsimp only at q; omega, fun q => by dsimp only at q; omega⟩
    have q : k = k' := q
    subst q
    show kd ns a ≠ k ∧ (a :: mem ns k r).Pairwise (· < ·) ∧ _ ∧ _
    rw [h.mems]
    refine ⟨hka, List.pairwise_cons.2 ⟨hlt, e1⟩, fun y hy => ?_, fun y hy z hz h1 h2 => ?_⟩
    · rcases List.mem_cons.1 hy with q1 | q1
      · have q1 : y = a := q1
        rw [q1]; exact ⟨hta, hua⟩
      · exact (e2 y q1).2.2
    · rcases List.mem_cons.1 hy with q1 | q1
      · have q1 : y = a := q1
        rcases List.mem_cons.1 hz with q2 | q2
        · have q2 : z = a := q2
          rw [q1, q2]
        · exact absurd h2 (hby (by rw [← q1]; exact h1) z q2)
      · rcases List.mem_cons.1 hz with q2 | q2
        · have q2 : z = a := q2
          exact absurd h1 (hby (by rw [← q2]; exact h2) y q1)
        · exact e3 y q1 z q2 h1 h2
  obtain ⟨c1, c2, c3, ⟨more, c4, _⟩, _⟩ := canon_put hc hr hx hl
  refine ⟨hr, hx, hl, by simp, c2, ?_, ?_, ?_⟩
  · have hk2 : kd (putS ns (Nd.mk k noSt a r false)) (putId ns (Nd.mk k noSt a r false)) = k := by unfold kd; rw [c3]
    have ha2 : ka (putS ns (Nd.mk k noSt a r false)) (putId ns (Nd.mk k noSt a r false)) = a := by unfold ka; rw [c3]
    have hb2 : kb (putS ns (Nd.mk k noSt a r false)) (putId ns (Nd.mk k noSt a r false)) = r := by unfold kb; rw [c3]
    rw [mem_node c1.fine hk c2 hk2, ha2, hb2, c4, mem_up hc.fine hk more _ a (Nat.le_refl _) ha, mem_up hc.fine hk more _ r (Nat.le_refl _) h.inn, mem_leaf hka, h.mems]; rfl
  · cases q : topB (putS ns (Nd.mk k noSt a r false)) k (putId ns (Nd.mk k noSt a r false)) with
    | false => rfl
    | true =>
      have := topB_kind q
      unfold kd at this
      rw [c3] at this
      dsimp only at this
      omega
  · cases q : unitB (putS ns (Nd.mk k noSt a r false)) k (putId ns (Nd.mk k noSt a r false)) with
    | false => rfl
    | true =>
      have := unitB_kind q
      unfold kd at this
      rw [c3] at this
      dsimp only at this
      omega

end Go.Proofs.YtcghclikkeajfaaGreat

/- A list of members, put together from the last one on: mathematics; no program is named. -/
namespace Go.Proofs.YtcghclikkeajfaaGreat
open Go.RowKit
set_option linter.unusedSimpArgs false
set_option linter.unusedVariables false
set_option linter.unusedSectionVars false

/-- Members as they may be put together. -/
structure GoodL (ns : List Nd) (k : Int) (sl : List Int) : Prop where
  lt : sl.Pairwise (· < ·)
  mem : ∀ y ∈ sl, isIn ns y ∧ kd ns y ≠ k ∧ topB ns k y = false ∧ unitB ns k y = false
  one : ∀ y ∈ sl, ∀ z ∈ sl, kd ns y = 2 → kd ns z = 2 → y = z
structure StepR (ns : List Nd) (k : Int) (sl : List Int) (j : Nat) (ns' : List Nd) (r : Int) : Prop where
  canon : Canon ns'
  list : IsList ns' k (sl.drop j) r
  more : ∃ more, ns' = ns ++ more ∧ more.length + j + 1 ≤ sl.length ∧ ((∃ r0, IsList ns k sl r0) → more = [])
section
variable {ns : List Nd} (hc : Canon ns) {k : Int} (hk : k = 4 ∨ k = 5)
include hc hk
theorem IsList.uniq {fl : List Int} {r r' : Int} (h : IsList ns k fl r) (h' : IsList ns k fl r') : r = r' := mem_inj hc hk _ r r' (Nat.le_refl _) h.inn h'.inn (by rw [h.mems, h'.mems])
theorem IsList.tail {a : Int} {fl : List Int} {r : Int} (h : IsList ns k (a :: fl) r) (hne : fl ≠ []) : ∃ r', IsList ns k fl r' := by
  by_cases e : kd ns r = k
  · obtain ⟨j1, j2, j3, j4⟩ := hc.join k hk r h.inn e
    obtain ⟨⟨a0, _⟩, b0, _⟩ := in_two hc.fine h.inn (by omega)
    have hm := mem_node hc.fine hk h.inn e
    rw [mem_leaf j1, h.mems] at hm
    have hm : a :: fl = ka ns r :: mem ns k (kb ns r) := hm
    injection hm with h1 h2
    refine ⟨kb ns r, hne, b0, h2.symm, ?_, ?_⟩
    · cases q : topB ns k (kb ns r) with
      | false => rfl
      | true =>
        have hk2 := topB_kind q
        have hin : kb ns r ∈ mem ns k r := by rw [h.mems, h2, mem_leaf (show kd ns (kb ns r) ≠ k by omega)]; simp
        rw [(j3 _ hin).1] at q; cases q
    · cases q : unitB ns k (kb ns r) with
      | false => rfl
      | true =>
        have hk2 := unitB_kind q
        have hin : kb ns r ∈ mem ns k r := by rw [h.mems, h2, mem_leaf (show kd ns (kb ns r) ≠ k by omega)]; simp
        rw [(j3 _ hin).2] at q; cases q
  · have := h.mems
    rw [mem_leaf e] at this
    injection this with _ h2
    exact absurd h2.symm hne
theorem IsList.drop {sl : List Int} {r : Int} (h : IsList ns k sl r) : ∀ j, j < sl.length → ∃ r', IsList ns k (sl.drop j) r'
  | 0, _ => ⟨r, by rw [List.drop_zero]; exact h⟩
  | j + 1, hj => by
    obtain ⟨r', h'⟩ := IsList.drop h j (by omega)
    rw [List.drop_eq_getElem_cons (by omega)] at h'
    exact IsList.tail hc hk h' (fun e => by
      have := congrArg List.length e
      simp at this
      omega)
theorem StepR.start {sl : List Int} (hg : GoodL ns k sl) (h0 : sl ≠ []) (p : Nat) (hp : sl.length = p + 1) : StepR ns k sl p ns (sl[p]'(by omega)) := by
  have hd : sl.drop p = [sl[p]'(by omega)] := by
    rw [List.drop_eq_getElem_cons (by omega), List.drop_eq_nil_of_le (by omega)]
  obtain ⟨m1, m2, m3, m4⟩ := hg.mem (sl[p]'(by omega)) (List.getElem_mem _)
  refine ⟨hc, by rw [hd]; exact IsList.one m1 m2 m3 m4, [], by rw [List.append_nil], by simp; omega, fun _ => rfl⟩
omit hc in
theorem StepR.next {sl : List Int} (hf : FineN ns) (hg : GoodL ns k sl) {j : Nat} {ns' : List Nd} {r : Int} (h : StepR ns k sl (j + 1) ns' r) (hj : j + 1 < sl.length) (hmax : ns'.length ≤ 20000) (hc0 : Canon ns) :
    (Nd.mk k noSt (sl[j]'(by omega)) r false).right ns'.length = true ∧ StepR ns k sl j (putS ns' (Nd.mk k noSt (sl[j]'(by omega)) r false)) (putId ns' (Nd.mk k noSt (sl[j]'(by omega)) r false)) := by
  obtain ⟨hc, hl, more, rfl, hlen, hold⟩ := h
  obtain ⟨a, ha⟩ : ∃ a, a = sl[j]'(by omega) := ⟨_, rfl⟩
  rw [← ha]
  have hd : sl.drop j = a :: sl.drop (j + 1) := by rw [List.drop_eq_getElem_cons (by omega), ha]
  have hma : a ∈ sl := by rw [ha]; exact List.getElem_mem _
  have hsub : ∀ y ∈ sl.drop (j + 1), y ∈ sl := fun y hy => List.mem_of_mem_drop hy
  obtain ⟨m1, m2, m3, m4⟩ := hg.mem a hma
  have hp : (sl.drop j).Pairwise (· < ·) := hg.lt.sublist (List.drop_sublist _ _)
  rw [hd] at hp
  obtain ⟨hp1, hp2⟩ := List.pairwise_cons.1 hp
  obtain ⟨c1, c2, c3, c4⟩ := IsList.cons hc hk hl (m1.up more) (by rw [kd_up m1]; exact m2) (by rw [topB_up hf more m1]; exact m3) (by rw [unitB_up hf more m1]; exact m4) hp1 (fun q y hy q2 => by
    have hy' := hsub y hy
    rw [kd_up m1] at q
    rw [kd_up (hg.mem y hy').1] at q2
    have := hg.one a hma y hy' q q2
    have := hp1 y hy
    omega) hmax
  obtain ⟨k1, k2, k3, ⟨m, k4, k5⟩, k6⟩ := canon_put hc c1 c2 c3
  refine ⟨c1, k1, by rw [hd]; exact c4, more ++ m, by rw [k4, List.append_assoc], by rw [List.length_append]; omega, fun hex => ?_⟩
  have hm := hold hex
  subst hm
  obtain ⟨r0, hr0⟩ := hex
  obtain ⟨rj, hrj⟩ := IsList.drop hc0 hk hr0 j (by omega)
  rw [List.append_nil] at *
  have hu := hrj.up hk hf m
  rw [← k4] at hu
  rw [hd] at hu
  have e := IsList.uniq k1 hk c4 hu
  have := k6 (by rw [e]; exact hrj.inn)
  rw [k4] at this
  exact List.append_right_eq_self.1 this
end

end Go.Proofs.YtcghclikkeajfaaGreat

/- The members of nodes, found one by one: mathematics; no program is named. -/
namespace Go.Proofs.YtcghclikkeajfaaGreat
open Go.RowKit
set_option linter.unusedSimpArgs false
set_option linter.unusedVariables false

structure MemInv (ns : List Nd) (k : Int) (l s T fd : List Int) : Prop where
  nd : s.Nodup
  sin : ∀ z ∈ s, isIn ns z
  tin : ∀ z ∈ T, isIn ns z
  fnd : fd.Nodup
  ffr : ∀ y ∈ fd, y ∈ s ∧ kd ns y ≠ k
  leaf : ∀ x ∈ s, kd ns x ≠ k → x ∈ fd
  node : ∀ x ∈ s, kd ns x = k → (ka ns x ∈ s ∨ ka ns x ∈ T) ∧ (kb ns x ∈ s ∨ kb ns x ∈ T)
  all : ∀ x ∈ l, x ∈ s ∨ x ∈ T
  snd : ∀ z, z ∈ s ∨ z ∈ T → ∀ y ∈ mem ns k z, ∃ x ∈ l, y ∈ mem ns k x
theorem MemInv.start {ns : List Nd} {k : Int} {l : List Int} (hl : ∀ x ∈ l, isIn ns x) : MemInv ns k l [] l [] :=
  ⟨List.nodup_nil, (by intro z h; cases h), hl, List.nodup_nil, (by intro z h; cases h), (by intro z h; cases h), (by intro z h; cases h), fun x h => Or.inr h, fun z h y hy => by
    rcases h with h | h
    · cases h
    · exact ⟨z, h, hy⟩⟩
theorem MemInv.skip {ns : List Nd} {k : Int} {l s T fd : List Int} {x : Int} (h : MemInv ns k l s (T ++ [x]) fd) (hx : x ∈ s) : MemInv ns k l s T fd := by
  have sub : ∀ z, z ∈ s ∨ z ∈ T ++ [x] → z ∈ s ∨ z ∈ T := fun z q => by
    rcases q with q | q
    · exact Or.inl q
    · rcases List.mem_append.1 q with q | q
      · exact Or.inr q
      · rw [List.mem_singleton.1 q]; exact Or.inl hx
  have sup : ∀ z, z ∈ s ∨ z ∈ T → z ∈ s ∨ z ∈ T ++ [x] := fun z q => by
    rcases q with q | q
    · exact Or.inl q
    · exact Or.inr (List.mem_append_left _ q)
  exact ⟨h.nd, h.sin, fun z hz => h.tin z (List.mem_append_left _ hz), h.fnd, h.ffr, h.leaf, fun y hy hk => ⟨sub _ (h.node y hy hk).1, sub _ (h.node y hy hk).2⟩, fun y hy => sub _ (h.all y hy), fun z hz => h.snd z (sup z hz)⟩
section
variable {ns : List Nd} (hf : FineN ns) {k : Int} (hk : k = 4 ∨ k = 5)
include hf hk
theorem MemInv.nodeStep {l s T fd : List Int} {x : Int} (h : MemInv ns k l s (T ++ [x]) fd) (hx : x ∉ s) (e : kd ns x = k) : MemInv ns k l (x :: s) (T ++ [ka ns x, kb ns x]) fd := by
  have hxi : isIn ns x := h.tin x (by simp)
  obtain ⟨⟨a0, _⟩, b0, _⟩ := in_two hf hxi (by omega)
  have sub : ∀ z, z ∈ s ∨ z ∈ T ++ [x] → z ∈ x :: s ∨ z ∈ T ++ [ka ns x, kb ns x] := fun z q => by
    rcases q with q | q
    · exact Or.inl (List.mem_cons_of_mem _ q)
    · rcases List.mem_append.1 q with q | q
      · exact Or.inr (List.mem_append_left _ q)
      · rw [List.mem_singleton.1 q]; exact Or.inl (by simp)
  refine ⟨List.nodup_cons.2 ⟨hx, h.nd⟩, fun z hz => ?_, fun z hz => ?_, h.fnd, fun y hy => ⟨List.mem_cons_of_mem _ (h.ffr y hy).1, (h.ffr y hy).2⟩, fun y hy hn => ?_, fun y hy hn => ?_, fun y hy => sub _ (h.all y hy), fun z hz y hy => ?_⟩
  · rcases List.mem_cons.1 hz with rfl | hz
    · exact hxi
    · exact h.sin z hz
  · rcases List.mem_append.1 hz with hz | hz
    · exact h.tin z (List.mem_append_left _ hz)
    · simp at hz
      rcases hz with rfl | rfl
      · exact a0
      · exact b0
  · rcases List.mem_cons.1 hy with rfl | hy
    · exact absurd e hn
    · exact h.leaf y hy hn
  · rcases List.mem_cons.1 hy with rfl | hy
    · exact ⟨Or.inr (List.mem_append_right _ (by simp)), Or.inr (List.mem_append_right _ (by simp))⟩
    · exact ⟨sub _ (h.node y hy hn).1, sub _ (h.node y hy hn).2⟩
  · have hx' := h.snd x (Or.inr (by simp))
    rw [mem_node hf hk hxi e] at hx'
    rcases hz with hz | hz
    · rcases List.mem_cons.1 hz with rfl | hz
      · exact h.snd z (Or.inr (by simp)) y hy
      · exact h.snd z (Or.inl hz) y hy
    · rcases List.mem_append.1 hz with hz | hz
      · exact h.snd z (Or.inr (List.mem_append_left _ hz)) y hy
      · simp at hz
        rcases hz with rfl | rfl
        · exact hx' y (List.mem_append_left _ hy)
        · exact hx' y (List.mem_append_right _ hy)
omit hf hk in
theorem MemInv.leafStep {l s T fd : List Int} {x : Int} (h : MemInv ns k l s (T ++ [x]) fd) (hx : x ∉ s) (e : kd ns x ≠ k) : MemInv ns k l (x :: s) T (fd ++ [x]) := by
  have hxi : isIn ns x := h.tin x (by simp)
  have sub : ∀ z, z ∈ s ∨ z ∈ T ++ [x] → z ∈ x :: s ∨ z ∈ T := fun z q => by
    rcases q with q | q
    · exact Or.inl (List.mem_cons_of_mem _ q)
    · rcases List.mem_append.1 q with q | q
      · exact Or.inr q
      · rw [List.mem_singleton.1 q]; exact Or.inl (by simp)
  refine ⟨List.nodup_cons.2 ⟨hx, h.nd⟩, fun z hz => ?_, fun z hz => h.tin z (List.mem_append_left _ hz), ?_, fun y hy => ?_, fun y hy hn => ?_, fun y hy hn => ?_, fun y hy => sub _ (h.all y hy), fun z hz y hy => ?_⟩
  · rcases List.mem_cons.1 hz with rfl | hz
    · exact hxi
    · exact h.sin z hz
  · refine List.nodup_append.2 ⟨h.fnd, by simp, fun a ha b hb => ?_⟩
    rw [List.mem_singleton.1 hb]
    intro q
    rw [q] at ha
    exact hx (h.ffr x ha).1
  · rcases List.mem_append.1 hy with hy | hy
    · exact ⟨List.mem_cons_of_mem _ (h.ffr y hy).1, (h.ffr y hy).2⟩
    · rw [List.mem_singleton.1 hy]; exact ⟨by simp, e⟩
  · rcases List.mem_cons.1 hy with rfl | hy
    · exact List.mem_append_right _ (by simp)
    · exact List.mem_append_left _ (h.leaf y hy hn)
  · rcases List.mem_cons.1 hy with rfl | hy
    · exact absurd hn e
    · exact ⟨sub _ (h.node y hy hn).1, sub _ (h.node y hy hn).2⟩
  · rcases hz with hz | hz
    · rcases List.mem_cons.1 hz with rfl | hz
      · exact h.snd z (Or.inr (by simp)) y hy
      · exact h.snd z (Or.inl hz) y hy
    · exact h.snd z (Or.inr (List.mem_append_left _ hz)) y hy
theorem MemInv.done {l s fd : List Int} (h : MemInv ns k l s [] fd) : fd.Nodup ∧ ∀ y, y ∈ fd ↔ ∃ x ∈ l, y ∈ mem ns k x := by
  have up : ∀ (n : Nat) (x : Int), x.toNat ≤ n → x ∈ s → ∀ y ∈ mem ns k x, y ∈ fd := by
    intro n
    induction n with
    | zero =>
      intro x hn hx y hy
      by_cases e : kd ns x = k
      · have h1 := (in_two hf (h.sin x hx) (by omega)).1
        have h2 := h.sin x hx
        unfold isIn at h1 h2
        omega
      · rw [mem_leaf e, List.mem_singleton] at hy
        rw [hy]; exact h.leaf x hx e
    | succ n ih =>
      intro x hn hx y hy
      by_cases e : kd ns x = k
      · have h1 := in_two hf (h.sin x hx) (by omega)
        have h2 := h.sin x hx
        unfold isIn at h1 h2
        have h3 := h.node x hx e
        have ha : ka ns x ∈ s := by
          rcases h3.1 with q | q
          · exact q
          · cases q
        have hb : kb ns x ∈ s := by
          rcases h3.2 with q | q
          · exact q
          · cases q
        rw [mem_node hf hk (h.sin x hx) e] at hy
        rcases List.mem_append.1 hy with hy | hy
        · exact ih _ (by omega) ha y hy
        · exact ih _ (by omega) hb y hy
      · rw [mem_leaf e, List.mem_singleton] at hy
        rw [hy]; exact h.leaf x hx e
  refine ⟨h.fnd, fun y => ⟨fun hy => ?_, ?_⟩⟩
  · obtain ⟨h1, h2⟩ := h.ffr y hy
    exact h.snd y (Or.inl h1) y (by rw [mem_leaf h2]; simp)
  · rintro ⟨x, hx, hy⟩
    rcases h.all x hx with q | q
    · exact up _ x (Nat.le_refl _) q y hy
    · cases q
end
/-- How many there are that aren't seen. -/
def unseen (n : Nat) (p : Int → Bool) : Nat := ((List.range n).filter (fun (j : Nat) => !p (j : Int))).length
theorem unseen_less {n : Nat} {s : List Int} {x : Int} (h0 : 0 ≤ x) (h1 : x < (n : Int)) (hx : x ∉ s) : unseen n (fun y => decide (y ∈ x :: s)) + 1 ≤ unseen n (fun y => decide (y ∈ s)) := by
  have key : ∀ (l : List Nat), ((l.filter (fun (j : Nat) => !decide ((j : Int) ∈ x :: s))).length + (if x.toNat ∈ l then 1 else 0) ≤ (l.filter (fun (j : Nat) => !decide ((j : Int) ∈ s))).length) := by
    intro l
    induction l with
    | nil => simp
    | cons a l ih =>
      by_cases e : (a : Int) = x
      · have ea : x.toNat = a := by omega
        have h2 : decide ((a : Int) ∈ x :: s) = true := by rw [e]; simp
        have h3 : decide ((a : Int) ∈ s) = false := by rw [e]; simp [hx]
        have h5 : x.toNat ∈ a :: l := by rw [ea]; simp
        simp only [List.filter_cons, h2, h3, Bool.not_true, Bool.not_false, if_true, Bool.false_eq_true, if_false, List.length_cons, h5]
        have : (l.filter (fun (j : Nat) => !decide ((j : Int) ∈ x :: s))).length ≤ (l.filter (fun (j : Nat) => !decide ((j : Int) ∈ s))).length := by omega
        omega
      · have ea : x.toNat ≠ a := by omega
        have h2 : decide ((a : Int) ∈ x :: s) = decide ((a : Int) ∈ s) := by simp [e]
        have h4 : (if x.toNat ∈ a :: l then 1 else 0) = (if x.toNat ∈ l then 1 else 0) := by simp [ea]
        rw [h4]
        cases q : decide ((a : Int) ∈ s) with
        | true =>
          simp only [List.filter_cons, h2, q, Bool.not_true, Bool.false_eq_true, if_false]
          exact ih
        | false =>
          simp only [List.filter_cons, h2, q, Bool.not_false, if_true, List.length_cons]
          omega
  have := key (List.range n)
  rw [if_pos (List.mem_range.2 (by omega))] at this
  exact this

end Go.Proofs.YtcghclikkeajfaaGreat

/- bolterlaw10.laws: the laws hold of three nodes, by what putting together does. -/
namespace Go.Proofs.YtcghclikkeajfaaGreat
open Go.RowKit
set_option linter.unusedSimpArgs false
set_option linter.unusedVariables false

def NoIs (ns : List Nd) (x : Int) : Prop := isIn ns x ∧ kd ns x = 0
def EmIs (ns : List Nd) (x : Int) : Prop := isIn ns x ∧ kd ns x = 1
def AlIs (ns : List Nd) (x : Int) : Prop := isIn ns x ∧ isAl ns x = true
def MemB (ns : List Nd) (k : Int) (c : Nat) (x : Int) : Prop := isIn ns x ∧ (mem ns k x).length ≤ c
def CatB (ns : List Nd) (c : Nat) (x : Int) : Prop := isIn ns x ∧ catN ns x ≤ c
def JoinI (ns : List Nd) (k : Int) (l : List Int) (r : Int) : Prop := (k = 4 ∨ k = 5) ∧ (∀ x ∈ l, isIn ns x) ∧ JoinR ns k l r
def CatI (ns : List Nd) (x y r : Int) : Prop := isIn ns x ∧ isIn ns y ∧ CatR ns x y r
def NotI (ns : List Nd) (x r : Int) : Prop := isIn ns x ∧ NotR ns x r
def StarI (ns : List Nd) (x r : Int) : Prop := isIn ns x ∧ StarR ns x r
section
variable {ns ns' : List Nd} (hf : FineN ns) (hu : Up ns ns') {k x y r : Int} {c : Nat} {l : List Int}
theorem NoIs.upTo (h : NoIs ns x) (hf : FineN ns) (hu : Up ns ns') : NoIs ns' x := ⟨h.1.upTo hu, by rw [kd_upTo h.1 hu]; exact h.2⟩
theorem EmIs.upTo (h : EmIs ns x) (hf : FineN ns) (hu : Up ns ns') : EmIs ns' x := ⟨h.1.upTo hu, by rw [kd_upTo h.1 hu]; exact h.2⟩
theorem AlIs.upTo (h : AlIs ns x) (hf : FineN ns) (hu : Up ns ns') : AlIs ns' x := ⟨h.1.upTo hu, by rw [isAl_upTo hf h.1 hu]; exact h.2⟩
theorem MemB.upTo (h : MemB ns k c x) (hk : k = 4 ∨ k = 5) (hf : FineN ns) (hu : Up ns ns') : MemB ns' k c x := by
  obtain ⟨more, rfl⟩ := hu
  exact ⟨h.1.up more, by rw [mem_up hf hk more _ x (Nat.le_refl _) h.1]; exact h.2⟩
theorem CatB.upTo (h : CatB ns c x) (hf : FineN ns) (hu : Up ns ns') : CatB ns' c x := by
  obtain ⟨more, rfl⟩ := hu
  exact ⟨h.1.up more, by unfold catN; rw [catV_up hf more h.1]; exact h.2⟩
theorem JoinI.upTo (h : JoinI ns k l r) (hf : FineN ns) (hu : Up ns ns') : JoinI ns' k l r := ⟨h.1, fun x hx => (h.2.1 x hx).upTo hu, h.2.2.upTo hf h.1 h.2.1 hu⟩
theorem CatI.upTo (h : CatI ns x y r) (hf : FineN ns) (hu : Up ns ns') : CatI ns' x y r := ⟨h.1.upTo hu, h.2.1.upTo hu, h.2.2.upTo hf h.1 h.2.1 hu⟩
theorem NotI.upTo (h : NotI ns x r) (hf : FineN ns) (hu : Up ns ns') : NotI ns' x r := ⟨h.1.upTo hu, h.2.upTo h.1 hu⟩
theorem StarI.upTo (h : StarI ns x r) (hf : FineN ns) (hu : Up ns ns') : StarI ns' x r := ⟨h.1.upTo hu, h.2.upTo h.1 hu⟩
theorem NoIs.mem (h : NoIs ns x) {k : Int} (hk : k = 4 ∨ k = 5) : (mem ns k x).length = 1 := by rw [mem_leaf (by rw [h.2]; omega)]; rfl
theorem AlIs.kd (h : AlIs ns x) : kd ns x = 6 := by
  have := h.2
  unfold isAl at this
  rw [Bool.and_eq_true, decide_eq_true_eq] at this
  exact this.1
theorem AlIs.mem (h : AlIs ns x) {k : Int} (hk : k = 4 ∨ k = 5) : (mem ns k x).length = 1 := by rw [mem_leaf (by rw [h.kd]; omega)]; rfl
theorem NoIs.no (h : NoIs ns x) : isNo ns x = true := decide_eq_true h.2
theorem EmIs.catN (h : EmIs ns x) : catN ns x = 0 := by show ((catV ns x).getD []).length = 0; rw [cat_empty h.2]; rfl
theorem NoIs.catN (h : NoIs ns x) : catN ns x = 0 := by show ((catV ns x).getD []).length = 0; rw [cat_none h.2]; rfl
end
section
variable {AA : World → Value → List Nd → (Nat → Prop) → Prop}

end

end Go.Proofs.YtcghclikkeajfaaGreat
