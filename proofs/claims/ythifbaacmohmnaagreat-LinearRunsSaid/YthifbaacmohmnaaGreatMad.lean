/- Joined: Tabs, SpansAt, Node, TrSize, Strip. -/
import Derived.Test.YthifbaacmohmnaaGreatMab
import Derived.Test.YthifbaacmohmnaaGreatProg
import Derived.Test.YthifbaacmohmnaaGreatMaa
import Derived.Test.YthifbaacmohmnaaGreatMac
import Derived.Laws.OwnMore
import Derived.Deep.AppendLies
/- A list of tables of the call's own; what a formed pattern matches, as a table. -/
namespace Go.Proofs.YthifbaacmohmnaaGreat
open Go.RowKit

theorem TabAt.grown {w w' : World} {E B : TypeId} {base g n : Nat} {r : Nat → Nat} {f : Nat → Nat → Bool} {row : Option Nat} (h : TabAt w E B base g n r f) (hg : w.grownBy w' row) (h1 : some g ≠ row) (h2 : ∀ i, i < n → some (r i) ≠ row) : TabAt w' E B base g n r f :=
  ⟨(hg.block g h.top.lt h1).trans h.top, h.low, fun i hi => (hg.block (r i) (h.row i hi).lt (h2 i hi)).trans (h.row i hi), h.rlow, h.apart⟩
abbrev TG := Nat × (Nat → Nat)
def tv (n : Nat) (p : TG) : Value := .slice (some ⟨p.1, 0, none⟩) n n
/-- A slice v of the call's own whose tables say fs. -/
structure TabsAt (w : World) (base : Nat) (v : Value) (n : Nat) (ts : List TG) (fs : List (Nat → Nat → Bool)) : Prop where
  own : w.ownsRow base 36 1 v ts.length (ts.map (tv n))
  len : ts.length = fs.length
  tab : ∀ (j : Nat) (h : j < ts.length) (h' : j < fs.length), TabAt w 41 4 base ts[j].1 n ts[j].2 fs[j]
  off : ∀ b, v.ownBlock = some b → ∀ p ∈ ts, p.1 ≠ b ∧ ∀ i, i < n → p.2 i ≠ b
section
variable {w w' w0 : World} {base n : Nat} {v : Value} {ts : List TG} {fs : List (Nat → Nat → Bool)}
theorem TabsAt.nil (w : World) (base n : Nat) : TabsAt w base (.slice none 0 0) n [] [] :=
  ⟨World.ownsRow_nil w base _ 1, rfl, fun j h => absurd h (Nat.not_lt_zero _), fun b _ p hp => by cases hp⟩
theorem TabsAt.next (h : TabsAt w base v n ts fs) (hb : Below w.heap.size w w') : TabsAt w' base v n ts fs :=
  ⟨World.ownsRow.kept (row := none) h.own (grown_none hb) (by cases hv : v.ownBlock <;> simp), h.len, fun j h1 h2 => (h.tab j h1 h2).next hb, h.off⟩
theorem TabsAt.cell {g cap m : Nat} (h : TabsAt w base (.slice (some ⟨g, 0, none⟩) m cap) n ts fs) (j : Nat) (hj : j < ts.length) : w.cell? ⟨g, j, none⟩ = some (.slice (some ⟨ts[j].1, 0, none⟩) n n) := by
  have hl : m = ts.length := by
    rcases h.own.2 with ⟨hv, _⟩ | ⟨g', cap', cur, hv, _⟩
    · cases hv
    · injection hv
  subst hl
  rw [World.ownsRow.cellAt h.own j (by omega)]
  simp [hj, tv]
theorem TabsAt.form (h : TabsAt w base v n ts fs) (hn : 0 < ts.length) : ∃ g cap, v = .slice (some ⟨g, 0, none⟩) ts.length cap ∧ base ≤ g ∧ g < w.heap.size := h.own.form hn
/-- One table more has been appended. -/
theorem TabsAt.push {g2 : Nat} {r2 : Nat → Nat} {f2 : Nat → Nat → Bool} {g cap H : Nat} (h : TabsAt w base v n ts fs) (ht : TabAt w 41 4 base g2 n r2 f2)
    (hown : w'.ownsRow base 36 1 (.slice (some ⟨g, 0, none⟩) (ts.length + 1) cap) (ts.length + 1) (ts.map (tv n) ++ [tv n (g2, r2)])) (hg : w.grownBy w' v.ownBlock)
    (hat : v.ownBlock = some g ∨ g = H) (hH : w.heap.size ≤ H) (hnew : ∀ b, v.ownBlock = some b → g2 ≠ b ∧ ∀ i, i < n → r2 i ≠ b) : TabsAt w' base (.slice (some ⟨g, 0, none⟩) (ts.length + 1) cap) n (ts ++ [(g2, r2)]) (fs ++ [f2]) := by
  have hkeep : ∀ (j : Nat) (h1 : j < ts.length) (h2 : j < fs.length), TabAt w' 41 4 base ts[j].1 n ts[j].2 fs[j] := fun j h1 h2 => by
    refine (h.tab j h1 h2).grown hg ?_ ?_
    · intro e
      exact (h.off _ e.symm _ (List.getElem_mem h1)).1 rfl
    · intro i hi e
      exact (h.off _ e.symm _ (List.getElem_mem h1)).2 i hi rfl
  have hkeep2 : TabAt w' 41 4 base g2 n r2 f2 := ht.grown hg (fun e => (hnew _ e.symm).1 rfl) (fun i hi e => (hnew _ e.symm).2 i hi rfl)
  refine ⟨?_, ?_, ?_, ?_⟩
  · rw [List.length_append, List.map_append]; exact hown
  · rw [List.length_append, List.length_append, h.len]; rfl
  · intro j h1 h2
    by_cases hj : j < ts.length
    · have hj2 : j < fs.length := by have := h.len; omega
      have e1 : (ts ++ [(g2, r2)])[j] = ts[j] := List.getElem_append_left hj
      have e2 : (fs ++ [f2])[j] = fs[j] := List.getElem_append_left hj2
      rw [e1, e2]; exact hkeep j hj hj2
    · have hj1 : j = ts.length := by rw [List.length_append] at h1; simp at h1; omega
      subst hj1
      have e1 : (ts ++ [(g2, r2)])[ts.length] = (g2, r2) := by simp
      have e2 : (fs ++ [f2])[ts.length]'h2 = f2 := by rw [List.getElem_append_right (by rw [h.len]; exact Nat.le_refl _)]; simp [h.len]
      rw [e1, e2]; exact hkeep2
  · intro b hb p hp
    have hbg : g = b := by simpa [Value.ownBlock] using hb
    subst hbg
    rcases hat with hat | rfl
    · rw [List.mem_append] at hp
      rcases hp with hp | hp
      · exact h.off _ hat p hp
      · have : p = (g2, r2) := by simpa using hp
        subst this
        exact hnew _ hat
    · have low : ∀ q : TG, (∃ f, TabAt w 41 4 base q.1 n q.2 f) → q.1 ≠ g ∧ ∀ i, i < n → q.2 i ≠ g := fun q ⟨f, hq⟩ => ⟨by have := hq.top.lt; omega, fun i hi => by have := (hq.row i hi).lt; omega⟩
      rw [List.mem_append] at hp
      rcases hp with hp | hp
      · obtain ⟨j, hj, rfl⟩ := List.getElem_of_mem hp
        exact low _ ⟨_, h.tab j hj (by have := h.len; omega)⟩
      · have : p = (g2, r2) := by simpa using hp
        subst this
        exact low _ ⟨_, ht⟩
end

/-- What a formed pattern matches in l: places 0 to n - 1, n one more than the bytes. -/
def byteF (s : St) (l : List Nat) (i j : Nat) : Bool := decide (j = i + 1 ∧ i < l.length) && s.has ((l[i]?).getD 0)
def noF (_ _ : Nat) : Bool := false
end Go.Proofs.YthifbaacmohmnaaGreat

/- What is claimed of the reference's Spans at patterns of so many levels; small facts for its walk. -/
namespace Go.Proofs.YthifbaacmohmnaaGreat
open Go.RowKit

theorem info_table : (Tryz.prog.info? 36).map (fun i => (i.zero, i.size, i.bytes)) = some (some (.slice none 0 0), 1, 24) := by kernel_rfl
/-- One cell of each row at most: the rows below i stand. -/
def diagTo (F : Nat → Nat → Bool) (i i' j' : Nat) : Bool := if i' < i then F i' j' else false
theorem diagTo_zero (F : Nat → Nat → Bool) (i' j' : Nat) : diagTo F 0 i' j' = noF i' j' := by unfold diagTo; rw [if_neg (Nat.not_lt_zero _)]; rfl
theorem diagTo_step {F : Nat → Nat → Bool} {i c : Nat} {v : Bool} (hF : ∀ j, j ≠ c → F i j = false) (hv : v = F i c) (i' j' : Nat) : (if i' = i ∧ j' = c then v else diagTo F i i' j') = diagTo F (i + 1) i' j' := by
  by_cases e : i' = i ∧ j' = c
  · obtain ⟨rfl, rfl⟩ := e
    rw [if_pos ⟨rfl, rfl⟩, hv]
    unfold diagTo
    rw [if_pos (by omega)]
  · rw [if_neg e]
    unfold diagTo
    by_cases c1 : i' < i
    · rw [if_pos c1, if_pos (by omega)]
    · rw [if_neg c1]
      by_cases c2 : i' = i
      · subst c2
        rw [if_pos (by omega), hF j' (fun q => e ⟨rfl, q⟩)]
      · rw [if_neg (by omega)]
theorem diagTo_end {F : Nat → Nat → Bool} {m i' j' : Nat} (h : i' < m) : diagTo F m i' j' = F i' j' := by unfold diagTo; rw [if_pos h]
theorem byte_off {s : St} {l : List Nat} {i j : Nat} (h : j ≠ i + 1) : byteF s l i j = false := by unfold byteF; rw [decide_eq_false (fun q => h q.1), Bool.false_and]
theorem byte_at {s : St} {l : List Nat} {i x : Nat} {v : Bool} (hi : i < l.length) (hx : (l[i]?).getD 0 = x) (hv : v = s.has x) : v = byteF s l i (i + 1) := by
  unfold byteF; rw [decide_eq_true ⟨rfl, hi⟩, Bool.true_and, hx]; exact hv
theorem byte_last {s : St} {l : List Nat} {i j : Nat} (h : l.length ≤ i) : byteF s l i j = false := by unfold byteF; rw [decide_eq_false (fun q => by omega), Bool.false_and]
theorem at_types {w : World} {g h : Nat} {s t : TypeId} {cs ds : Array Value} (hg : At w g s cs) (hh : At w h t ds) (hne : s ≠ t) : g ≠ h := fun e => by
  subst e
  unfold At at hg hh
  rw [hg] at hh
  injection hh with hh
  injection hh with _ h2 _
  exact hne h2
theorem refBlankI (n : Nat) (hn : n ≤ 1000) (x : Int) (hx : x = (n : Int)) (w : World) : Calls Tryz.prog 28 #[.int .i64 x] w (Tabled w n noF) := by
  subst hx
  refine (refBlank n hn w).mono ?_
  rintro e w' ⟨rfl, h, hb⟩
  exact ⟨_, _, rfl, h, hb⟩
theorem refOneI (n : Nat) (hn : n ≤ 1000) (x : Int) (hx : x = (n : Int)) (w : World) : Calls Tryz.prog 29 #[.int .i64 x] w (Tabled w n eqF) := by
  subst hx
  exact refOne n hn w
section
variable {k n : Nat} {l : List Nat} {t : Tr}
end

end Go.Proofs.YthifbaacmohmnaaGreat

/- Nodes: as data, as cells, and what they match as tables. -/
namespace Go.Proofs.YthifbaacmohmnaaGreat
open Go.RowKit
set_option linter.unusedSimpArgs false
set_option linter.unusedVariables false

structure Nd where
  kind : Int
  set : St
  a : Int
  b : Int
  neg : Bool
def Nd.cs (x : Nd) : List Value := [.int .i64 x.kind, .int .u64 x.set.w0, .int .u64 x.set.w1, .int .u64 x.set.w2, .int .u64 x.set.w3, .int .i64 x.a, .int .i64 x.b, .bool x.neg]
theorem Nd.cs_length (x : Nd) : x.cs.length = 8 := rfl
theorem Nd.one (x : Nd) : x.cs.toArray.all (·.oneCell') = true := by simp [Nd.cs, Value.oneCell']
def Nd.zero : Nd := ⟨0, ⟨0, 0, 0, 0⟩, 0, 0, false⟩
def ndAt (l : List Nd) (j : Nat) : Nd := (l[j]?).getD Nd.zero
theorem ndAt_lt {l : List Nd} {j : Nat} (h : j < l.length) : ndAt l j = l[j] := by unfold ndAt; rw [List.getElem?_eq_getElem h]; rfl
/-- Nodes in a row. -/
def NdsAt (w : World) (v : Value) (l : List Nd) : Prop :=
  ∃ A cap, v = .slice A l.length cap ∧ l.length ≤ 9223372036854775807 ∧ (0 < l.length → ∃ b off, A = some ⟨b, off, none⟩ ∧ b < w.heap.size ∧ ∀ (j : Nat) (h : j < l.length), w.rangeAt b (off + j * 8) (ndAt l j).cs)
theorem NdsAt.next {w w' : World} {v : Value} {l : List Nd} (h : NdsAt w v l) (hb : Below w.heap.size w w') : NdsAt w' v l := by
  obtain ⟨A, cap, h1, h2, h3⟩ := h
  refine ⟨A, cap, h1, h2, fun h0 => ?_⟩
  obtain ⟨b, off, e, hlt, hr⟩ := h3 h0
  exact ⟨b, off, e, Nat.lt_of_lt_of_le hlt hb.size, fun j hj => fun i v hv => ((bcell hb).1 b _ hlt).trans (hr j hj i v hv)⟩
theorem NdsAt.len {w : World} {A : Option Addr} {n c : Nat} {l : List Nd} (h : NdsAt w (.slice A n c) l) : n = l.length := by
  obtain ⟨A', cap, h1, _⟩ := h
  injection h1
/-- A node in a new variable. -/
def boxN (w : World) (x : Nd) : World := (w.alloc (.cells #[.int .i64 0, .int .u64 0, .int .u64 0, .int .u64 0, .int .u64 0, .int .i64 0, .int .i64 0, .bool false] 61)).setRow w.heap.size x.cs.toArray
theorem boxN_at (w : World) (x : Nd) : At (boxN w x) w.heap.size 61 x.cs.toArray := At.row (At.new w 61 Nd.zero.cs.toArray) _
theorem boxN_next (w : World) (x : Nd) : Below w.heap.size w (boxN w x) := below_row ((Below.refl _ _).alloc (Nat.le_refl _) _) (Nat.le_refl _) _
theorem Nd.cells {w : World} {g : Nat} {t : TypeId} {x : Nd} (h : At w g t x.cs.toArray) : w.cell? ⟨g, 0, none⟩ = some (.int .i64 x.kind) ∧ w.cell? ⟨g, 1, none⟩ = some (.int .u64 x.set.w0) ∧ w.cell? ⟨g, 2, none⟩ = some (.int .u64 x.set.w1) ∧ w.cell? ⟨g, 3, none⟩ = some (.int .u64 x.set.w2) ∧ w.cell? ⟨g, 4, none⟩ = some (.int .u64 x.set.w3) ∧ w.cell? ⟨g, 5, none⟩ = some (.int .i64 x.a) ∧ w.cell? ⟨g, 6, none⟩ = some (.int .i64 x.b) ∧ w.cell? ⟨g, 7, none⟩ = some (.bool x.neg) :=
  ⟨At.cell h 0, At.cell h 1, At.cell h 2, At.cell h 3, At.cell h 4, At.cell h 5, At.cell h 6, At.cell h 7⟩

/- What nodes match. -/
def bitF (bits : List Nat) (a : Nat) (neg : Bool) (i j : Nat) : Bool := decide (i = j) && (decide (((bits[i]?).getD 0) >>> a % 2 = 1) != neg)
def fAt (fs : List (Nat → Nat → Bool)) (k : Int) : Nat → Nat → Bool := (fs[k.toNat]?).getD noF
def nodeF (l bits : List Nat) (fs : List (Nat → Nat → Bool)) (x : Nd) : Nat → Nat → Bool :=
  if x.kind = 1 then eqF
  else if x.kind = 2 then byteF x.set l
  else if x.kind = 3 then thenF (fAt fs x.a) (fAt fs x.b) (l.length + 1)
  else if x.kind = 4 then fun i j => fAt fs x.a i j || fAt fs x.b i j
  else if x.kind = 5 then fun i j => fAt fs x.a i j && fAt fs x.b i j
  else if x.kind = 6 then otherF (fAt fs x.a)
  else if x.kind = 7 then anyTo (fAt fs x.a) (l.length + 1) (l.length + 1)
  else if x.kind = 8 then bitF bits x.a.toNat x.neg
  else noF
def nodesF (l bits : List Nat) (ns : List Nd) : Nat → List (Nat → Nat → Bool)
  | 0 => []
  | j + 1 => nodesF l bits ns j ++ [nodeF l bits (nodesF l bits ns j) (ndAt ns j)]
theorem nodesF_length (l bits : List Nat) (ns : List Nd) : ∀ j, (nodesF l bits ns j).length = j
  | 0 => rfl
  | j + 1 => by
    show (nodesF l bits ns j ++ [_]).length = j + 1
    rw [List.length_append, nodesF_length l bits ns j]; rfl
/-- Each node names only those ahead of it; a look's number is small. -/
def NdOk (x : Nd) (j : Nat) : Prop :=
  x.set.Ok ∧ (x.kind = 3 ∨ x.kind = 4 ∨ x.kind = 5 → 0 ≤ x.a ∧ x.a < j ∧ 0 ≤ x.b ∧ x.b < j) ∧ (x.kind = 6 ∨ x.kind = 7 → 0 ≤ x.a ∧ x.a < j) ∧ (x.kind = 8 → 0 ≤ x.a ∧ x.a < 4)

end Go.Proofs.YthifbaacmohmnaaGreat

/- How great a pattern is: by its parts, at most 1001. No program is named here. -/
namespace Go.Proofs.YthifbaacmohmnaaGreat
open Go.RowKit

end Go.Proofs.YthifbaacmohmnaaGreat

/- Patterns without their addresses; patterns turned round; what stays the same. No program is named here. -/
namespace Go.Proofs.YthifbaacmohmnaaGreat
open Go.RowKit

def Tr.blank : Tr := .node 0 ⟨0, 0, 0, 0⟩ none 0 0 [] 0 0 false
/- Alike. -/
/- Formed, deep, great: no address has a say, and turning leaves them. -/
end Go.Proofs.YthifbaacmohmnaaGreat
