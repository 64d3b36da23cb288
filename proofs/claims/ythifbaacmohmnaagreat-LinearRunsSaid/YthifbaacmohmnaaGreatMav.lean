/- Joined: NormLen, NormAwake, NormStep, NormPut. -/
import Derived.Test.YthifbaacmohmnaaGreatMak
import Derived.Test.YthifbaacmohmnaaGreatMal
/- How long what is put together gets: mathematics; no program is named. -/
namespace Go.Proofs.YthifbaacmohmnaaGreat
open Go.RowKit
set_option linter.unusedSimpArgs false
set_option linter.unusedVariables false
set_option linter.unusedSectionVars false

section
variable {ns : List Nd} (hc : Canon ns) {k : Int} (hk : k = 4 ∨ k = 5)
include hc hk
end
end Go.Proofs.YthifbaacmohmnaaGreat

/- bolterlaw10.awake, by what putting together does. -/
namespace Go.Proofs.YthifbaacmohmnaaGreat
open Go.RowKit
set_option linter.unusedSimpArgs false
set_option linter.unusedVariables false

theorem list_two (w : World) (x y : Int) (t : TypeId) : ListAt (w.alloc (.cells #[.int .i64 x, .int .i64 y] t)) (.slice (some ⟨w.heap.size, 0, none⟩) 2 2) [x, y] :=
  ⟨_, _, rfl, fun _ => ⟨w.heap.size, 0, rfl, by simp, fun j hj => by
    have h := (At.new w t #[.int .i64 x, .int .i64 y]).cell (0 + j)
    rw [h]
    have hj : j < 2 := hj
    have : j = 0 ∨ j = 1 := by omega
    rcases this with rfl | rfl <;> rfl⟩⟩
section
variable {AA : World → Value → List Nd → (Nat → Prop) → Prop}
end

end Go.Proofs.YthifbaacmohmnaaGreat

/- One step of a walk that puts nodes together: where the arena stands, what came, what was answered. -/
namespace Go.Proofs.YthifbaacmohmnaaGreat
open Go.RowKit
set_option linter.unusedSimpArgs false
set_option linter.unusedVariables false

def UpN (ns ns' : List Nd) : Prop := ∃ more, ns' = ns ++ more
theorem UpN.refl (ns : List Nd) : UpN ns ns := ⟨[], by rw [List.append_nil]⟩
theorem UpN.trans {a b c : List Nd} (h : UpN a b) (h' : UpN b c) : UpN a c := by
  obtain ⟨x, rfl⟩ := h
  obtain ⟨y, rfl⟩ := h'
  exact ⟨x ++ y, by rw [List.append_assoc]⟩
/-- How many members and parts a node has at most. -/
def LenB (ns : List Nd) (W4 W5 W3 : Nat) (x : Int) : Prop := isIn ns x ∧ (mem ns 4 x).length ≤ W4 ∧ (mem ns 5 x).length ≤ W5 ∧ catN ns x ≤ W3
theorem LenB.up {ns ns' : List Nd} (hf : FineN ns) {W4 W5 W3 : Nat} {x : Int} (h : LenB ns W4 W5 W3 x) (hu : UpN ns ns') : LenB ns' W4 W5 W3 x := by
  obtain ⟨more, rfl⟩ := hu
  obtain ⟨h0, h4, h5, h3⟩ := h
  refine ⟨h0.up more, ?_, ?_, ?_⟩
  · rw [mem_up hf (Or.inl rfl) more _ x (Nat.le_refl _) h0]; exact h4
  · rw [mem_up hf (Or.inr rfl) more _ x (Nat.le_refl _) h0]; exact h5
  · unfold catN; rw [catV_up hf more h0]; exact h3
theorem LenB.mono {ns : List Nd} {W4 W5 W3 V4 V5 V3 : Nat} {x : Int} (h : LenB ns W4 W5 W3 x) (h4 : W4 ≤ V4) (h5 : W5 ≤ V5) (h3 : W3 ≤ V3) : LenB ns V4 V5 V3 x :=
  ⟨h.1, Nat.le_trans h.2.1 h4, Nat.le_trans h.2.2.1 h5, Nat.le_trans h.2.2.2 h3⟩
section
variable {AA : World → Value → List Nd → (Nat → Prop) → Prop}
structure LSt (AA : World → Value → List Nd → (Nat → Prop) → Prop) (w0 w : World) (a : Value) (ns0 : List Nd) (F0 : Nat → Prop) (m : Nat) (ns : List Nd) : Prop where
  ex : ∃ F, AA w a ns F ∧ (∀ b, F b → F0 b ∨ w0.heap.size ≤ b) ∧ OffF F0 w0 w
  up : UpN ns0 ns
  few : ns.length ≤ ns0.length + m
  canon : Canon ns
variable (S : ArenaBig AA) (N : NormSpec AA) {w0 w : World} {a : Value} {ns0 ns : List Nd} {F0 : Nat → Prop} {m : Nat}
theorem LSt.start {F : Nat → Prop} (h : AA w a ns F) (hc : Canon ns) : LSt AA w w a ns F 0 ns := ⟨⟨F, h, fun b q => Or.inl q, OffF.of (Below.refl _ _)⟩, UpN.refl _, Nat.le_refl _, hc⟩
include S in
theorem LSt.next {w' : World} (h : LSt AA w0 w a ns0 F0 m ns) (hb : Below w.heap.size w w') : LSt AA w0 w' a ns0 F0 m ns := by
  obtain ⟨F, h1, h2, h3⟩ := h.ex
  exact ⟨⟨F, S.next h1 hb, h2, h3.then hb⟩, h.up, h.few, h.canon⟩
include S in
theorem LSt.alloc (h : LSt AA w0 w a ns0 F0 m ns) (o : Obj) : LSt AA w0 (w.alloc o) a ns0 F0 m ns := h.next S ((Below.refl _ _).alloc (Nat.le_refl _) o)
theorem LSt.mono {m' : Nat} (h : LSt AA w0 w a ns0 F0 m ns) (hm : m ≤ m') : LSt AA w0 w a ns0 F0 m' ns := ⟨h.ex, h.up, Nat.le_trans h.few (by omega), h.canon⟩
theorem LSt.grown {F : Nat → Prop} {R : List Nd → Int → Prop} {e : Ending} {w' : World} {c : Nat} (h : LSt AA w0 w a ns0 F0 m ns) (h1 : AA w a ns F) (h2 : ∀ b, F b → F0 b ∨ w0.heap.size ≤ b) (h3 : OffF F0 w0 w) (g : Grows AA w a ns F R e w') (hR : ∀ more r, R more r → more.length ≤ c) :
    ∃ r more, e = .returned (.int .i64 r) ∧ LSt AA w0 w' a ns0 F0 (m + c) (ns ++ more) ∧ isIn (ns ++ more) r ∧ R more r := by
  obtain ⟨r, more, F', rfl, g1, g2, g3, g4, g5, g6⟩ := g
  have hl := hR more r g6
  refine ⟨r, more, rfl, ⟨⟨F', g1, fun b q => ?_, h3.off g3 h2⟩, h.up.trans ⟨more, rfl⟩, ?_, g4⟩, g5, g6⟩
  · rcases g2 b q with q | q
    · exact h2 b q
    · exact Or.inr (Nat.le_trans h3.size q)
  · rw [List.length_append]; have := h.few; omega
include N
end

end Go.Proofs.YthifbaacmohmnaaGreat

/- A node that is put where all are as they should be: mathematics; no program is named. -/
namespace Go.Proofs.YthifbaacmohmnaaGreat
open Go.RowKit
set_option linter.unusedSimpArgs false
set_option linter.unusedVariables false
set_option linter.unusedSectionVars false

/-- A node that may be put so that what is alike is one. -/
structure Fits (ns : List Nd) (x : Nd) : Prop where
  cat : x.kind = 3 → (kd ns x.a ≠ 0 ∧ kd ns x.a ≠ 1 ∧ kd ns x.a ≠ 3) ∧ kd ns x.b ≠ 0 ∧ kd ns x.b ≠ 1
  join : ∀ k, k = 4 ∨ k = 5 → x.kind = k → kd ns x.a ≠ k ∧ (x.a :: mem ns k x.b).Pairwise (· < ·) ∧ (∀ y ∈ x.a :: mem ns k x.b, topB ns k y = false ∧ unitB ns k y = false) ∧ (∀ y ∈ x.a :: mem ns k x.b, ∀ z ∈ x.a :: mem ns k x.b, kd ns y = 2 → kd ns z = 2 → y = z)
  not : x.kind = 6 → kd ns x.a ≠ 6
  star : x.kind = 7 → kd ns x.a ≠ 0 ∧ kd ns x.a ≠ 1 ∧ kd ns x.a ≠ 7
  bytes : x.kind = 2 → ∃ b, b < 256 ∧ x.set.has b = true
theorem fine_snoc {ns : List Nd} {x : Nd} (hf : FineN ns) (hr : x.right ns.length = true) (hx : NdFit x) (hn : ¬ findN ns x < ns.length) : FineN (ns ++ [x]) := by
  have hl : (ns ++ [x]).length = ns.length + 1 := by rw [List.length_append]; rfl
  have hat : ∀ j, j < ns.length → ndAt (ns ++ [x]) j = ndAt ns j := fun j hj => by unfold ndAt; rw [List.getElem?_append_left hj]
  have hlast : ndAt (ns ++ [x]) ns.length = x := by unfold ndAt; rw [List.getElem?_append_right (Nat.le_refl _), Nat.sub_self]; rfl
  have hne : ∀ j, j < ns.length → ndAt ns j ≠ x := fun j hj e => hn (by
    rcases Nat.lt_or_ge (findN ns x) ns.length with h | h
    · exact h
    · have h1 := findN_not (ns := ns) (x := x) (t := j) (by omega)
      rw [e, Nd.eqb_self] at h1; cases h1)
  refine ⟨fun j hj => ?_, fun i j hi hj e => ?_⟩
  · rw [hl] at hj
    by_cases c : j < ns.length
    · rw [hat j c]; exact hf.1 j c
    · obtain rfl : j = ns.length := by omega
      rw [hlast]; exact ⟨hr, hx⟩
  · rw [hl] at hi hj
    by_cases c : i < ns.length
    · by_cases d : j < ns.length
      · rw [hat i c, hat j d] at e; exact hf.2 i j c d e
      · obtain rfl : j = ns.length := by omega
        rw [hat i c, hlast] at e; exact absurd e (hne i c)
    · obtain rfl : i = ns.length := by omega
      by_cases d : j < ns.length
      · rw [hlast, hat j d] at e; exact absurd e.symm (hne j d)
      · omega
theorem right_in {ns : List Nd} {x : Nd} (h : x.right ns.length = true) (hf : NdFit x) : (x.kind = 3 ∨ x.kind = 4 ∨ x.kind = 5 → isIn ns x.a ∧ isIn ns x.b) ∧ (x.kind = 6 ∨ x.kind = 7 → isIn ns x.a) := by
  have ho := right_ok h hf
  exact ⟨fun k => ⟨⟨(ho.2.1 k).1, (ho.2.1 k).2.1⟩, (ho.2.1 k).2.2⟩, fun k => ho.2.2.1 k⟩
/-- What is put may stand there. -/
theorem canon_put {ns : List Nd} {x : Nd} (hc : Canon ns) (hr : x.right ns.length = true) (hx : NdFit x) (hl : Fits ns x) :
    Canon (putS ns x) ∧ isIn (putS ns x) (putId ns x) ∧ ndAt (putS ns x) (putId ns x).toNat = x ∧ (∃ more, putS ns x = ns ++ more ∧ more.length ≤ 1) ∧ (isIn ns (putId ns x) → putS ns x = ns) := by
  have hid : putId ns x = (findN ns x : Int) := by unfold putId; rw [if_pos hr]
  obtain ⟨p1, p2⟩ := put_at (ns := ns) hr
  have hle := findN_le ns x
  by_cases hlt : findN ns x < ns.length
  · have hps : putS ns x = ns := by unfold putS; rw [if_pos hr, if_pos hlt]
    rw [hps] at p1 p2 ⊢
    refine ⟨hc, ?_, by rw [hid, Int.toNat_natCast]; exact p2, ⟨[], by rw [List.append_nil], by simp⟩, fun _ => rfl⟩
    rw [hid]; unfold isIn; omega
  · have hps : putS ns x = ns ++ [x] := by unfold putS; rw [if_pos hr, if_neg hlt]
    have hfe : findN ns x = ns.length := by omega
    have hlen : (ns ++ [x]).length = ns.length + 1 := by rw [List.length_append]; rfl
    rw [hps] at p1 p2 ⊢
    have hfine := fine_snoc hc.fine hr hx hlt
    have hnew : ndAt (ns ++ [x]) (ns.length : Int).toNat = x := by rw [Int.toNat_natCast, ← hfe]; exact p2
    have hcase : ∀ y, isIn (ns ++ [x]) y → isIn ns y ∨ y = (ns.length : Int) := fun y hy => by
      unfold isIn at *
      rw [hlen] at hy
      omega
    obtain ⟨r2, r1⟩ := right_in hr hx
    have kn : kd (ns ++ [x]) (ns.length : Int) = x.kind := by unfold kd; rw [hnew]
    have an : ka (ns ++ [x]) (ns.length : Int) = x.a := by unfold ka; rw [hnew]
    have bn : kb (ns ++ [x]) (ns.length : Int) = x.b := by unfold kb; rw [hnew]
    refine ⟨⟨hfine, fun y hy k3 => ?_, fun k hk y hy ke => ?_, fun y hy k6 => ?_, fun y hy k7 => ?_, fun y hy k2 => ?_⟩, by rw [hid, hfe]; unfold isIn; omega, by rw [hid, hfe]; exact hnew, ⟨[x], rfl, by simp⟩, fun h => by rw [hid, hfe] at h; unfold isIn at h; omega⟩
    · rcases hcase y hy with q | q
      · rw [kd_up q] at k3
        rw [ka_up q, kb_up q]
        obtain ⟨⟨a0, _⟩, b0, _⟩ := in_two hc.fine q (Or.inl k3)
        rw [kd_up a0, kd_up b0]
        exact hc.cat y q k3
      · subst q
        rw [kn] at k3
        rw [an, bn]
        obtain ⟨a0, b0⟩ := r2 (Or.inl k3)
        rw [kd_up a0, kd_up b0]
        exact hl.cat k3
    · rcases hcase y hy with q | q
      · rw [kd_up q] at ke
        rw [ka_up q, mem_up hc.fine hk [x] _ y (Nat.le_refl _) q]
        obtain ⟨⟨a0, _⟩, b0, _⟩ := in_two hc.fine q (by omega)
        rw [kd_up a0]
        obtain ⟨j1, j2, j3, j4⟩ := hc.join k hk y q ke
        have hin : ∀ z ∈ mem ns k y, isIn ns z := fun z hz => (mem_in hc.fine hk _ y (Nat.le_refl _) q z hz).1
        refine ⟨j1, j2, fun z hz => ?_, fun z hz u hu e1 e2 => ?_⟩
        · rw [topB_up hc.fine [x] (hin z hz), unitB_up hc.fine [x] (hin z hz)]; exact j3 z hz
        · rw [kd_up (hin z hz)] at e1
          rw [kd_up (hin u hu)] at e2
          exact j4 z hz u hu e1 e2
      · subst q
        rw [kn] at ke
        obtain ⟨a0, b0⟩ := r2 (by omega)
        obtain ⟨j1, j2, j3, j4⟩ := hl.join k hk ke
        have hm : mem (ns ++ [x]) k (ns.length : Int) = x.a :: mem ns k x.b := by
          rw [mem_node hfine hk hy (by rw [kn, ke]), an, bn, mem_up hc.fine hk [x] _ x.a (Nat.le_refl _) a0, mem_up hc.fine hk [x] _ x.b (Nat.le_refl _) b0, mem_leaf j1]; rfl
        have hin : ∀ z ∈ x.a :: mem ns k x.b, isIn ns z := fun z hz => by
          rcases List.mem_cons.1 hz with rfl | hz
          · exact a0
          · exact (mem_in hc.fine hk _ x.b (Nat.le_refl _) b0 z hz).1
        rw [an, kd_up a0, hm]
        refine ⟨j1, j2, fun z hz => ?_, fun z hz u hu e1 e2 => ?_⟩
        · rw [topB_up hc.fine [x] (hin z hz), unitB_up hc.fine [x] (hin z hz)]; exact j3 z hz
        · rw [kd_up (hin z hz)] at e1
          rw [kd_up (hin u hu)] at e2
          exact j4 z hz u hu e1 e2
    · rcases hcase y hy with q | q
      · rw [kd_up q] at k6
        rw [ka_up q, kd_up (in_one hc.fine q (Or.inl k6)).1]
        exact hc.not y q k6
      · subst q
        rw [kn] at k6
        rw [an, kd_up (r1 (Or.inl k6))]
        exact hl.not k6
    · rcases hcase y hy with q | q
      · rw [kd_up q] at k7
        rw [ka_up q, kd_up (in_one hc.fine q (Or.inr k7)).1]
        exact hc.star y q k7
      · subst q
        rw [kn] at k7
        rw [an, kd_up (r1 (Or.inr k7))]
        exact hl.star k7
    · rcases hcase y hy with q | q
      · rw [kd_up q] at k2
        rw [nd_up q]
        exact hc.bytes y q k2
      · subst q
        rw [kn] at k2
        rw [hnew]
        exact hl.bytes k2

end Go.Proofs.YthifbaacmohmnaaGreat
