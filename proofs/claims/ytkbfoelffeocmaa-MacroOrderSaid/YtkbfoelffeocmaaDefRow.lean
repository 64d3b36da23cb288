/- A row of defs of the call's own; which are done, as a row of bools. -/
import Derived.Test.YtkbfoelffeocmaaMd
import Derived.Test.YtkbfoelffeocmaaParseH
namespace Go.Proofs.Ytkbfoelffeocmaa
open Go.RowKit
set_option linter.unusedSimpArgs false
set_option linter.unusedVariables false

theorem strip_lv' (k : Nat) (t : Tr) : Tr.Lv k t → t.strip (k + 1) = t.strip k := by
  induction k generalizing t with
  | zero => exact fun h => h.elim
  | succ k ih =>
    intro h
    show Tr.node t.kind t.set none t.parts.length 0 (t.parts.map (Tr.strip (k + 1))) t.lo t.hi t.neg = Tr.node t.kind t.set none t.parts.length 0 (t.parts.map (Tr.strip k)) t.lo t.hi t.neg
    congr 1
    exact List.map_congr_left (fun p hp => ih p (h p hp))
theorem strip_same' {k k' : Nat} {t : Tr} (h : Tr.Lv k t) (hk : k ≤ k') : t.strip k' = t.strip k := by
  obtain ⟨d, rfl⟩ : ∃ d, k' = k + d := ⟨k' - k, by omega⟩
  clear hk
  have : t.strip (k + d) = t.strip k ∧ Tr.Lv (k + d) t := by
    induction d with
    | zero => exact ⟨rfl, h⟩
    | succ d ih => exact ⟨(strip_lv' (k + d) t ih.2).trans ih.1, Tr.Lv.up _ _ ih.2⟩
  exact this.1
structure DefRow (w : World) (g n B : Nat) (nm : Nat → ByteArray) (ts : Nat → Tr) : Prop where
  names : ∀ j, j < n → w.rangeAt g (j * 10) [.string (nm j)]
  trees : ∀ j, j < n → w.rangeAt g (j * 10 + 1) (ts j).cs
  there : ∀ j, j < n → w.there g (j * 10) 10
  ins : ∀ j, j < n → Tr.Ins w 40 (ts j) ∧ Tr.From B 40 (ts j)
section
variable {w w' : World} {g n B : Nat} {nm : Nat → ByteArray} {ts : Nat → Tr}
theorem DefRow.next (h : DefRow w g n B nm ts) (hg : g < w.heap.size) (hb : Below w.heap.size w w') : DefRow w' g n B nm ts :=
  ⟨fun j hj => range_below' (h.names j hj) hg hb, fun j hj => range_below (h.trees j hj) hg (Nat.le_refl _) hb, fun j hj i hi => by
    have := h.there j hj i hi
    exact ⟨by rw [(bcell hb).1 g _ hg]; exact this.1, by rw [(bcell hb).2 g _ hg]; exact this.2⟩, fun j hj => ⟨(h.ins j hj).1.next hb, (h.ins j hj).2⟩⟩
where
  range_below' {w w' : World} {g o : Nat} {cs : List Value} (h : w.rangeAt g o cs) (hg : g < w.heap.size) (hb : Below w.heap.size w w') : w'.rangeAt g o cs := fun i v hv => ((bcell hb).1 g _ hg).trans (h i v hv)
theorem DefRow.same (h : DefRow w g n B nm ts) (e : w'.heap = w.heap) : DefRow w' g n B nm ts :=
  ⟨fun j hj i v hv => by have := h.names j hj i v hv; unfold World.cell? at this ⊢; rw [e]; exact this, fun j hj i v hv => by have := h.trees j hj i v hv; unfold World.cell? at this ⊢; rw [e]; exact this,
    fun j hj i hi => by
      have := h.there j hj i hi
      unfold World.cell? World.frozen? at this ⊢; rw [e]; exact this,
    fun j hj => ⟨⟨Tr.In.same e 40 _ (h.ins j hj).1.1, sol_same e 40 _ (h.ins j hj).1.2⟩, (h.ins j hj).2⟩⟩
where
  sol_same {w w' : World} (e : w'.heap = w.heap) : ∀ (k : Nat) (t : Tr), Tr.Sol w k t → Tr.Sol w' k t
    | 0, _, _ => trivial
    | k + 1, t, h => ⟨fun h0 b off ea => by have := h.1 h0 b off ea; unfold World.frozen? at this ⊢; rw [e]; exact this, fun p hp => sol_same e k p (h.2 p hp)⟩
/-- Another block has turned. -/
theorem DefRow.only {g' : Nat} (h : DefRow w g n B nm ts) (ho : Only g' w w') (hne : g ≠ g') (hB : g' < B) : DefRow w' g n B nm ts :=
  ⟨fun j hj i v hv => by have := h.names j hj i v hv; unfold World.cell? at this ⊢; rw [ho.2.2.2.2 g hne]; exact this, fun j hj i v hv => by have := h.trees j hj i v hv; unfold World.cell? at this ⊢; rw [ho.2.2.2.2 g hne]; exact this,
    fun j hj i hi => by
      have := h.there j hj i hi
      unfold World.cell? World.frozen? at this ⊢; rw [ho.2.2.2.2 g hne]; exact this,
    fun j hj => ⟨(h.ins j hj).1.only (h.ins j hj).2 ho hB, (h.ins j hj).2⟩⟩
/-- A name is written. -/
theorem DefRow.putName (h : DefRow w g n B nm ts) (hgB : g < B) {i : Nat} (hi : i < n) (x : ByteArray) : DefRow (w.setCells g (i * 10) [.string x]) g n B (fun j => if j = i then x else nm j) ts :=
  ⟨fun j hj => by
    by_cases e : j = i
    · subst e
      rw [if_pos rfl]
      exact World.rangeAt_setCells_same _ _ _ _ (fun k hk => h.there j hj k (by simp at hk; omega))
    · rw [if_neg e]
      exact World.rangeAt_setCells_apart (h.names j hj) _ _ _ (by right; simp; omega),
   fun j hj => World.rangeAt_setCells_apart (h.trees j hj) _ _ _ (by right; rw [Tr.cs_length]; simp; omega),
   fun j hj => World.there_setCells (h.there j hj) _ _ _,
   fun j hj => ⟨(h.ins j hj).1.only (h.ins j hj).2 ((Only.refl g w).cells _ _) hgB, (h.ins j hj).2⟩⟩
theorem DefRow.thereTree (h : DefRow w g n B nm ts) {i : Nat} (hi : i < n) : w.there g (i * 10 + 1) 9 := fun k hk => by
  have := h.there i hi (k + 1) (by omega)
  rw [show i * 10 + (k + 1) = i * 10 + 1 + k by omega] at this
  exact this
/-- A pattern is written. -/
theorem DefRow.putTree (h : DefRow w g n B nm ts) (hgB : g < B) {i : Nat} (hi : i < n) {t : Tr} (hin : Tr.Ins w 40 t) (hfr : Tr.From B 40 t) : DefRow (w.setCells g (i * 10 + 1) t.cs) g n B nm (fun j => if j = i then t else ts j) :=
  ⟨fun j hj => World.rangeAt_setCells_apart (h.names j hj) _ _ _ (by right; rw [Tr.cs_length]; simp; omega),
   fun j hj => by
    by_cases e : j = i
    · subst e
      rw [if_pos rfl]
      exact World.rangeAt_setCells_same _ _ _ _ (by rw [Tr.cs_length]; exact h.thereTree hj)
    · rw [if_neg e]
      exact World.rangeAt_setCells_apart (h.trees j hj) _ _ _ (by right; rw [Tr.cs_length, Tr.cs_length]; omega),
   fun j hj => World.there_setCells (h.there j hj) _ _ _,
   fun j hj => by
    by_cases e : j = i
    · rw [if_pos e]; exact ⟨hin.only hfr ((Only.refl g w).cells _ _) hgB, hfr⟩
    · rw [if_neg e]; exact ⟨(h.ins j hj).1.only (h.ins j hj).2 ((Only.refl g w).cells _ _) hgB, (h.ins j hj).2⟩⟩
theorem DefRow.whole (h : DefRow w g n B nm ts) {j : Nat} (hj : j < n) : w.rangeAt g (j * 10) (defCs (nm j) (ts j)) := fun i v hv => by
  unfold defCs at hv
  cases i with
  | zero =>
    have := h.names j hj 0 v (by simpa using hv)
    exact this
  | succ i =>
    rw [List.getElem?_cons_succ] at hv
    have := h.trees j hj i v hv
    rw [show j * 10 + 1 + i = j * 10 + (i + 1) by omega] at this
    exact this
end
theorem DefRow.defs {w : World} {g B : Nat} {ts : Nat → Tr} {ms : List (ByteArray × ByteArray)} {F : ByteArray → Tr} (h : DefRow w g ms.length B (fun j => (atM ms j).1) ts) (hg : g < w.heap.size) (hl : ms.length ≤ 20) (hF : ∀ j, j < ms.length → (ts j).strip 40 = F (atM ms j).1) (c : Nat) :
    DefsIn w (.slice (some ⟨g, 0, none⟩) ms.length c) (dsOf ms F) := by
  have hlen : (dsOf ms F).length = ms.length := dsOf_length ms F
  refine ⟨some ⟨g, 0, none⟩, c, (List.range ms.length).map ts, by rw [hlen], by rw [hlen]; omega, by rw [hlen]; simp, fun _ => ⟨g, 0, rfl, hg, fun j hj hj' => ?_⟩, fun j hj hj' => ?_⟩
  · rw [hlen] at hj
    rw [dsOf_at, List.getElem_map, List.getElem_range, Nat.zero_add]
    exact h.whole hj
  · rw [hlen] at hj
    rw [dsOf_at, List.getElem_map, List.getElem_range]
    exact ⟨40, (h.ins j hj).1, fun k' hk' => (strip_same' (h.ins j hj).1.1.lv hk').trans (hF j hj)⟩
def defZero : Array Value := #[.string { data := #[] }, .int .i64 0, .int .u64 0, .int .u64 0, .int .u64 0, .int .u64 0, .slice none 0 0, .int .i64 0, .int .i64 0, .bool false]
theorem info_def : (Try.prog.info? 36).map (fun i => (i.zero, i.size, i.bytes)) = some (some (.agg defZero), 10, 104) := by kernel_rfl
theorem make_def (n : Nat) (hn : n ≤ 1000000) (w : World) : (Instr.makeSlice 25 (.int .i64 (n : Int)) (.int .i64 (n : Int))).run Try.prog w = .ok (.slice (some ⟨w.heap.size, 0, none⟩) n n) (w.alloc (.cells (madeCells defZero (n * 10)) 36)) := by
  obtain ⟨i, hi, h0, h1, h2⟩ := info_parts info_def
  have h := run_make (P := Try.prog) w 25 36 i _ Try.underlying25 hi h0 .i64 .i64 (n : Int) (n : Int) (by omega) (Int.le_refl _) (by rw [h2]; omega) (by omega)
  rw [h1] at h
  simpa [Value.cells] using h
theorem blank_ins (w : World) (B : Nat) : Tr.Ins w 40 Tr.blank ∧ Tr.From B 40 Tr.blank :=
  ⟨⟨⟨⟨zero_ok, I64_zero, I64_zero, I64_zero⟩, ⟨rfl, Nat.zero_le _⟩, fun h0 => absurd h0 (Nat.lt_irrefl 0), fun j hj => absurd hj (Nat.not_lt_zero _)⟩, ⟨fun h0 => absurd h0 (Nat.lt_irrefl 0), fun p hp => absurd hp List.not_mem_nil⟩⟩,
    ⟨fun h0 => absurd h0 (Nat.lt_irrefl 0), fun p hp => absurd hp List.not_mem_nil⟩⟩
theorem made_defs (w : World) (n B : Nat) : DefRow (w.alloc (.cells (madeCells defZero (n * 10)) 36)) w.heap.size n B (fun _ => { data := #[] }) (fun _ => Tr.blank) := by
  have hA := At.new w 36 (madeCells defZero (n * 10))
  have hget : ∀ j i, j < n → i < 10 → (madeCells defZero (n * 10))[j * 10 + i]? = defZero[i]? := by
    intro j i hj hi
    unfold madeCells
    rw [Array.getElem?_map, Array.getElem?_range, if_pos (by omega)]
    have h9 : defZero.size = 10 := rfl
    rw [Option.map_some, h9, show (j * 10 + i) % 10 = i by omega, Array.getElem?_eq_getElem (by rw [h9]; exact hi)]
    congr 1
    rw [getElem!_pos defZero i (by rw [h9]; exact hi)]
  refine ⟨fun j hj i v hv => ?_, fun j hj i v hv => ?_, fun j hj i hi => ⟨?_, hA.free _⟩, fun j hj => blank_ins _ _⟩
  · have hi : i < 1 := by have := (List.getElem?_eq_some_iff.1 hv).1; simpa using this
    obtain rfl : i = 0 := by omega
    rw [hA.cell, hget j 0 hj (by omega), ← hv]; rfl
  · have hi : i < 9 := by have := (List.getElem?_eq_some_iff.1 hv).1; rwa [Tr.cs_length] at this
    rw [hA.cell, show j * 10 + 1 + i = j * 10 + (i + 1) by omega, hget j (i + 1) hj (by omega), ← hv]
    match i, hi with
    | 0, _ => rfl
    | 1, _ => rfl
    | 2, _ => rfl
    | 3, _ => rfl
    | 4, _ => rfl
    | 5, _ => rfl
    | 6, _ => rfl
    | 7, _ => rfl
    | 8, _ => rfl
  · rw [hA.cell, hget j i hj hi, Array.getElem?_eq_getElem (by show i < 10; exact hi)]; rfl

/- Which are done. -/
def dnRow (dn : Nat → Bool) (n : Nat) : Array Value := arr n (fun k => .bool (dn k))
theorem dnRow_zero (n : Nat) : dnRow (fun _ => false) n = madeCells #[.bool false] n := by
  unfold dnRow arr madeCells
  apply Array.ext_getElem?
  intro i
  by_cases hi : i < n <;> simp [hi, Nat.mod_one]
theorem dnRow_set (dn : Nat → Bool) (n k : Nat) : (dnRow dn n).setIfInBounds k (.bool true) = dnRow (setB dn k) n := by
  unfold dnRow
  rw [arr_set]
  apply arr_congr
  intro j _
  unfold setB
  by_cases e : j = k
  · simp [e]
  · simp [e]
theorem info_bool : (Try.prog.info? 4).map (fun i => (i.zero, i.size, i.bytes)) = some (some (.bool false), 1, 1) := by kernel_rfl
theorem make_dn (n : Nat) (hn : n ≤ 1000000) (w : World) : (Instr.makeSlice 60 (.int .i64 (n : Int)) (.int .i64 (n : Int))).run Try.prog w = .ok (.slice (some ⟨w.heap.size, 0, none⟩) n n) (w.alloc (.cells (dnRow (fun _ => false) n) 4)) := by
  obtain ⟨i, hi, h0, h1, h2⟩ := info_parts info_bool
  have h := run_make (P := Try.prog) w 60 4 i _ Try.underlying60 hi h0 .i64 .i64 (n : Int) (n : Int) (by omega) (Int.le_refl _) (by rw [h2]; omega) (by omega)
  rw [h1] at h
  rw [dnRow_zero]
  simpa [Value.cells] using h
theorem dn_bools {w : World} {g n : Nat} {dn : Nat → Bool} {t : TypeId} (h : At w g t (dnRow dn n)) (c : Nat) : BoolsIn w (.slice (some ⟨g, 0, none⟩) n c) n dn :=
  ⟨_, _, rfl, fun _ => ⟨g, rfl, h.lt, fun j hj => by rw [h.cell]; exact arr_get _ _ _ hj⟩⟩
def cntB (dn : Nat → Bool) : Nat → Nat
  | 0 => 0
  | k + 1 => cntB dn k + (if dn k = true then 1 else 0)
theorem cntB_le (dn : Nat → Bool) : ∀ n, cntB dn n ≤ n
  | 0 => Nat.le_refl _
  | k + 1 => by have := cntB_le dn k; show cntB dn k + (if dn k = true then 1 else 0) ≤ k + 1; split <;> omega
theorem cntB_lt (dn : Nat → Bool) : ∀ n, cntB dn n < n → ∃ j, j < n ∧ dn j = false
  | 0, h => absurd h (Nat.not_lt_zero _)
  | k + 1, h => by
    have h' : cntB dn k + (if dn k = true then 1 else 0) < k + 1 := h
    cases e : dn k with
    | false => exact ⟨k, Nat.lt_succ_self _, e⟩
    | true =>
      rw [e, if_pos rfl] at h'
      obtain ⟨j, hj, hd⟩ := cntB_lt dn k (by omega)
      exact ⟨j, by omega, hd⟩
theorem cntB_all (dn : Nat → Bool) : ∀ n, cntB dn n = n → ∀ j, j < n → dn j = true
  | 0, _, j, hj => absurd hj (Nat.not_lt_zero _)
  | k + 1, h, j, hj => by
    have h' : cntB dn k + (if dn k = true then 1 else 0) = k + 1 := h
    have hl := cntB_le dn k
    cases e : dn k with
    | false => rw [e, if_neg (by decide)] at h'; omega
    | true =>
      rw [e, if_pos rfl] at h'
      by_cases q : j = k
      · rw [q]; exact e
      · exact cntB_all dn k (by omega) j (by omega)
theorem cntB_out (dn : Nat → Bool) (i : Nat) : ∀ n, n ≤ i → cntB (setB dn i) n = cntB dn n
  | 0, _ => rfl
  | k + 1, h => by
    show cntB (setB dn i) k + (if setB dn i k = true then 1 else 0) = cntB dn k + (if dn k = true then 1 else 0)
    have hs : setB dn i k = dn k := by unfold setB; exact if_neg (by omega)
    rw [cntB_out dn i k (by omega), hs]
theorem cntB_set (dn : Nat → Bool) (i : Nat) (hd : dn i = false) : ∀ n, i < n → cntB (setB dn i) n = cntB dn n + 1
  | 0, h => absurd h (Nat.not_lt_zero _)
  | k + 1, h => by
    show cntB (setB dn i) k + (if setB dn i k = true then 1 else 0) = cntB dn k + (if dn k = true then 1 else 0) + 1
    by_cases e : i = k
    · subst e
      rw [cntB_out dn i i (Nat.le_refl _), hd]
      unfold setB
      simp
    · have hs : setB dn i k = dn k := by unfold setB; exact if_neg (by omega)
      rw [cntB_set dn i hd k (by omega), hs]
      omega
theorem cntB_zero : ∀ n, cntB (fun _ => false) n = 0
  | 0 => rfl
  | k + 1 => by show cntB (fun _ => false) k + 0 = 0; rw [cntB_zero k]

end Go.Proofs.Ytkbfoelffeocmaa
