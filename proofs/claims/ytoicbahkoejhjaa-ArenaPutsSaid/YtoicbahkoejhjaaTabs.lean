/- A list of tables of the call's own; what a formed pattern matches, as a table. -/
import Derived.Test.YtoicbahkoejhjaaProg
import Derived.Test.YtoicbahkoejhjaaWords
import Derived.Test.YtoicbahkoejhjaaCl
import Derived.Test.YtoicbahkoejhjaaRow
import Derived.Test.YtoicbahkoejhjaaTr
import Derived.Test.YtoicbahkoejhjaaFormed
import Derived.Test.YtoicbahkoejhjaaTable
import Derived.Test.YtoicbahkoejhjaaBlank
import Derived.Test.YtoicbahkoejhjaaOne
import Derived.Test.YtoicbahkoejhjaaThen
import Derived.Test.YtoicbahkoejhjaaEither
import Derived.Test.YtoicbahkoejhjaaBoth
import Derived.Test.YtoicbahkoejhjaaAny
import Derived.Test.YtoicbahkoejhjaaLook
import Derived.Laws.OwnMore
import Derived.Deep.AppendLies
namespace Go.Proofs.Ytoicbahkoejhjaa
open Go.RowKit

theorem TabAt.grown {w w' : World} {E B : TypeId} {base g n : Nat} {r : Nat → Nat} {f : Nat → Nat → Bool} {row : Option Nat} (h : TabAt w E B base g n r f) (hg : w.grownBy w' row) (h1 : some g ≠ row) (h2 : ∀ i, i < n → some (r i) ≠ row) : TabAt w' E B base g n r f :=
  ⟨(hg.block g h.top.lt h1).trans h.top, h.low, fun i hi => (hg.block (r i) (h.row i hi).lt (h2 i hi)).trans (h.row i hi), h.rlow, h.apart⟩
abbrev TG := Nat × (Nat → Nat)
def tv (n : Nat) (p : TG) : Value := .slice (some ⟨p.1, 0, none⟩) n n
/-- A slice v of the call's own whose tables say fs. -/
structure TabsAt (w : World) (base : Nat) (v : Value) (n : Nat) (ts : List TG) (fs : List (Nat → Nat → Bool)) : Prop where
  own : w.ownsRow base 47 1 v ts.length (ts.map (tv n))
  len : ts.length = fs.length
  tab : ∀ (j : Nat) (h : j < ts.length) (h' : j < fs.length), TabAt w 50 4 base ts[j].1 n ts[j].2 fs[j]
  off : ∀ b, v.ownBlock = some b → ∀ p ∈ ts, p.1 ≠ b ∧ ∀ i, i < n → p.2 i ≠ b
section
variable {w w' w0 : World} {base n : Nat} {v : Value} {ts : List TG} {fs : List (Nat → Nat → Bool)}
theorem TabsAt.nil (w : World) (base n : Nat) : TabsAt w base (.slice none 0 0) n [] [] :=
  ⟨World.ownsRow_nil w base _ 1, rfl, fun j h => absurd h (Nat.not_lt_zero _), fun b _ p hp => by cases hp⟩
theorem grown_none (hb : Below w.heap.size w w') : w.grownBy w' none := ⟨hb.os, hb.tape, hb.output, hb.size, fun i hi _ => hb.block i hi⟩
theorem TabsAt.next (h : TabsAt w base v n ts fs) (hb : Below w.heap.size w w') : TabsAt w' base v n ts fs :=
  ⟨World.ownsRow.kept (row := none) h.own (grown_none hb) (by cases hv : v.ownBlock <;> simp), h.len, fun j h1 h2 => (h.tab j h1 h2).next hb, h.off⟩
theorem TabsAt.cell {g cap m : Nat} (h : TabsAt w base (.slice (some ⟨g, 0, none⟩) m cap) n ts fs) (j : Nat) (hj : j < ts.length) : w.cell? ⟨g, j, none⟩ = some (.slice (some ⟨ts[j].1, 0, none⟩) n n) := by
  have hl : m = ts.length := by
    rcases h.own.2 with ⟨hv, _⟩ | ⟨g', cap', cur, hv, _⟩
    · cases hv
    · injection hv
  subst hl
  rw [World.ownsRow.cellAt h.own j (by omega)]
  simp [hj, tv]
theorem TabsAt.form (h : TabsAt w base v n ts fs) (hn : 0 < ts.length) : ∃ g cap, v = .slice (some ⟨g, 0, none⟩) ts.length cap ∧ base ≤ g ∧ g < w.heap.size := h.own.form hn
theorem TabsAt.len_form (h : TabsAt w base v n ts fs) : ∃ A cap, v = .slice A ts.length cap := by
  rcases h.own.2 with ⟨rfl, hn⟩ | ⟨g, cap, cur, rfl, _⟩
  · exact ⟨none, 0, by rw [hn]⟩
  · exact ⟨_, _, rfl⟩
/-- One table more has been appended. -/
theorem TabsAt.push {g2 : Nat} {r2 : Nat → Nat} {f2 : Nat → Nat → Bool} {g cap H : Nat} (h : TabsAt w base v n ts fs) (ht : TabAt w 50 4 base g2 n r2 f2)
    (hown : w'.ownsRow base 47 1 (.slice (some ⟨g, 0, none⟩) (ts.length + 1) cap) (ts.length + 1) (ts.map (tv n) ++ [tv n (g2, r2)])) (hg : w.grownBy w' v.ownBlock)
    (hat : v.ownBlock = some g ∨ g = H) (hH : w.heap.size ≤ H) (hnew : ∀ b, v.ownBlock = some b → g2 ≠ b ∧ ∀ i, i < n → r2 i ≠ b) : TabsAt w' base (.slice (some ⟨g, 0, none⟩) (ts.length + 1) cap) n (ts ++ [(g2, r2)]) (fs ++ [f2]) := by
  have hkeep : ∀ (j : Nat) (h1 : j < ts.length) (h2 : j < fs.length), TabAt w' 50 4 base ts[j].1 n ts[j].2 fs[j] := fun j h1 h2 => by
    refine (h.tab j h1 h2).grown hg ?_ ?_
    · intro e
      exact (h.off _ e.symm _ (List.getElem_mem h1)).1 rfl
    · intro i hi e
      exact (h.off _ e.symm _ (List.getElem_mem h1)).2 i hi rfl
  have hkeep2 : TabAt w' 50 4 base g2 n r2 f2 := ht.grown hg (fun e => (hnew _ e.symm).1 rfl) (fun i hi e => (hnew _ e.symm).2 i hi rfl)
  refine ⟨?_, ?_, ?_, ?_⟩
  · rw [List.length_append, List.map_append]; exact hown
  · rw [List.length_append, List.length_append, h.len]; rfl
  · intro j h1 h2
    by_cases hj : j < ts.length
    · have hj2 : j < fs.length := by have := h.len; omega
      have e1 : (ts ++ [(g2, r2)])[j] = ts[j] := List.getElem_append_left hj
      have e2 : (fs ++ [f2])[j] = fs[j] := List.getElem_append_left hj2
      rw [e1, e2]; exact hkeep j hj hj2
    · have hj1 : j = ts.length := by rw [List.length_append] at h1; simp at h1; omega
      subst hj1
      have e1 : (ts ++ [(g2, r2)])[ts.length] = (g2, r2) := by simp
      have e2 : (fs ++ [f2])[ts.length]'h2 = f2 := by rw [List.getElem_append_right (by rw [h.len]; exact Nat.le_refl _)]; simp [h.len]
      rw [e1, e2]; exact hkeep2
  · intro b hb p hp
    have hbg : g = b := by simpa [Value.ownBlock] using hb
    subst hbg
    rcases hat with hat | rfl
    · rw [List.mem_append] at hp
      rcases hp with hp | hp
      · exact h.off _ hat p hp
      · have : p = (g2, r2) := by simpa using hp
        subst this
        exact hnew _ hat
    · have low : ∀ q : TG, (∃ f, TabAt w 50 4 base q.1 n q.2 f) → q.1 ≠ g ∧ ∀ i, i < n → q.2 i ≠ g := fun q ⟨f, hq⟩ => ⟨by have := hq.top.lt; omega, fun i hi => by have := (hq.row i hi).lt; omega⟩
      rw [List.mem_append] at hp
      rcases hp with hp | hp
      · obtain ⟨j, hj, rfl⟩ := List.getElem_of_mem hp
        exact low _ ⟨_, h.tab j hj (by have := h.len; omega)⟩
      · have : p = (g2, r2) := by simpa using hp
        subst this
        exact low _ ⟨_, ht⟩
end

/-- What a formed pattern matches in l: places 0 to n - 1, n one more than the bytes. -/
def byteF (s : St) (l : List Nat) (i j : Nat) : Bool := decide (j = i + 1 ∧ i < l.length) && s.has ((l[i]?).getD 0)
def beginF (l : List Nat) (i j : Nat) : Bool := decide (i = j) && (decide (i = 0) || decide ((l[i - 1]?).getD 0 = 10))
def endF (l : List Nat) (i j : Nat) : Bool := decide (i = j) && (decide (i = l.length) || decide ((l[i]?).getD 0 = 10))
def noF (_ _ : Nat) : Bool := false
def spansS (l : List Nat) : Nat → Tr → Nat → Nat → Bool
  | 0, _ => noF
  | k + 1, t =>
    let n := l.length + 1
    let fs := t.parts.map (spansS l k)
    if t.kind = 1 then eqF
    else if t.kind = 2 then byteF t.set l
    else if t.kind = 3 then fs.foldl (fun f g => thenF f g n) eqF
    else if t.kind = 4 then fs.foldl (fun f g i j => f i j || g i j) noF
    else if t.kind = 5 then fs.foldl (fun f g i j => f i j && g i j) (otherF noF)
    else if t.kind = 6 then otherF (fs.headD noF)
    else if t.kind = 7 then timesT (fs.headD noF) n t.lo.toNat t.hi
    else if t.kind = 8 then lookF (fs.headD noF) n false t.neg
    else if t.kind = 9 then lookF (fs.headD noF) n true t.neg
    else if t.kind = 10 then beginF l
    else if t.kind = 11 then endF l
    else noF

end Go.Proofs.Ytoicbahkoejhjaa
