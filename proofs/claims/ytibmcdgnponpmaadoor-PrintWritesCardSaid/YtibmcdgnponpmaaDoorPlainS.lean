/- Patterns made plain. No program is walked here. -/
import Derived.Test.YtibmcdgnponpmaaDoorMa
namespace Go.Proofs.YtibmcdgnponpmaaDoor
open Go.RowKit
set_option linter.unusedSimpArgs false
set_option linter.unusedVariables false

def leafP (kd : Int) : Tr := .node kd ⟨0, 0, 0, 0⟩ none 0 0 [] 0 0 false
/-- What a plain And of none is. -/
def allP : Tr := .node 6 ⟨0, 0, 0, 0⟩ none 1 0 [leafP 2] 0 0 false
/-- The pattern made plain. -/
def plainS : Nat → Tr → Tr
  | 0, _ => Tr.blank
  | k + 1, t =>
    if (t.kind = 3 ∨ t.kind = 4 ∨ t.kind = 5) ∧ t.parts.length = 1 then (t.parts.map (plainS k)).headD Tr.blank
    else if t.kind = 0 ∨ (t.kind = 4 ∧ t.parts.length = 0) then leafP 2
    else if t.kind = 3 ∧ t.parts.length = 0 then leafP 1
    else if t.kind = 5 ∧ t.parts.length = 0 then allP
    else .node t.kind t.set none t.parts.length 0 (t.parts.map (plainS k)) t.lo t.hi t.neg
section
variable {k : Nat} {t : Tr}
theorem plain_one (h : t.kind = 3 ∨ t.kind = 4 ∨ t.kind = 5) (hl : t.parts.length = 1) : plainS (k + 1) t = plainS k (t.parts[0]'(by omega)) := by
  rw [plainS, if_pos ⟨h, hl⟩]
  obtain ⟨a, e⟩ : ∃ a, t.parts = [a] := List.length_eq_one_iff.1 hl
  simp only [e, List.map_cons, List.map_nil, List.headD_cons, List.getElem_cons_zero]
theorem plain_none (h : t.kind = 0) : plainS (k + 1) t = leafP 2 := by rw [plainS, if_neg (by omega), if_pos (Or.inl h)]
theorem plain_or (h : t.kind = 4) (hl : t.parts.length = 0) : plainS (k + 1) t = leafP 2 := by rw [plainS, if_neg (by omega), if_pos (Or.inr ⟨h, hl⟩)]
theorem plain_cat (h : t.kind = 3) (hl : t.parts.length = 0) : plainS (k + 1) t = leafP 1 := by rw [plainS, if_neg (by omega), if_neg (by omega), if_pos ⟨h, hl⟩]
theorem plain_and (h : t.kind = 5) (hl : t.parts.length = 0) : plainS (k + 1) t = allP := by rw [plainS, if_neg (by omega), if_neg (by omega), if_neg (by omega), if_pos ⟨h, hl⟩]
theorem plain_node (h0 : ¬ t.kind = 0) (h : t.kind = 3 ∨ t.kind = 4 ∨ t.kind = 5 → 2 ≤ t.parts.length) : plainS (k + 1) t = .node t.kind t.set none t.parts.length 0 (t.parts.map (plainS k)) t.lo t.hi t.neg := by
  rw [plainS, if_neg (by omega), if_neg (by omega), if_neg (by omega), if_neg (by omega)]
end
theorem plainS_strip : ∀ (k : Nat) (t : Tr), plainS k (t.strip k) = plainS k t
  | 0, _ => rfl
  | k + 1, t => by
    have e : (t.parts.map (Tr.strip k)).map (plainS k) = t.parts.map (plainS k) := by
      rw [List.map_map]; exact List.map_congr_left fun p _ => plainS_strip k p
    show (if (t.kind = 3 ∨ t.kind = 4 ∨ t.kind = 5) ∧ (t.parts.map (Tr.strip k)).length = 1 then ((t.parts.map (Tr.strip k)).map (plainS k)).headD Tr.blank
      else if t.kind = 0 ∨ (t.kind = 4 ∧ (t.parts.map (Tr.strip k)).length = 0) then leafP 2
      else if t.kind = 3 ∧ (t.parts.map (Tr.strip k)).length = 0 then leafP 1
      else if t.kind = 5 ∧ (t.parts.map (Tr.strip k)).length = 0 then allP
      else .node t.kind t.set none (t.parts.map (Tr.strip k)).length 0 ((t.parts.map (Tr.strip k)).map (plainS k)) t.lo t.hi t.neg) = _
    rw [e, List.length_map]; rfl
theorem leafP_strip (k : Nat) (kd : Int) : (leafP kd).strip (k + 1) = leafP kd := rfl
theorem allP_strip (k : Nat) : allP.strip (k + 2) = allP := rfl

end Go.Proofs.YtibmcdgnponpmaaDoor
