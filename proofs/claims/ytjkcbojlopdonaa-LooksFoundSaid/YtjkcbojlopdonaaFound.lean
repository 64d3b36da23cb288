/- LooksFound: what is known of the looks; few; awake. -/
import Derived.Test.YtjkcbojlopdonaaMake13
import Derived.Test.YtjkcbojlopdonaaRefLooksW
import Derived.Test.YtjkcbojlopdonaaFew
import Derived.Test.YtjkcbojlopdonaaMaj
namespace Go.Proofs.Ytjkcbojlopdonaa
open Go.RowKit
set_option linter.unusedSimpArgs false
set_option linter.unusedVariables false

theorem wpList_load_want13 {P : Program} {ops : Array Oper} {rest : List Oper} {o : Oper} {a : Act} {w : World} {Q : Exit → Act → World → Prop} (hw : Region.wanted o (yielded ops a.tmps) = true) (ty : TypeId) (x : Operand) (ho : o.op = .load ty x)
    (b off : Nat) (hx : a.eval x = .pointer (some ⟨b, off, none⟩)) (cs : List Value) (d : TypeDesc) (hc : w.rangeAt b off cs)
    (hu : P.underlying ty = some d) (hd : d.isRow = true) (hi : (P.info? ty).map (·.size) = some cs.length)
    (h : wpList P ops Q rest (a.put o.dst (.agg cs.toArray)) w) : wpList P ops Q (o :: rest) a w :=
  wpList_step fun K hK => by rw [if_pos hw]; exact wp_load_mid ty x ho b off hx cs d hc hu hd hi (hK _ _ h)
theorem bare_bare (t : Tr) : bareT (bareT t) = bareT t := by cases t; rfl
theorem bare_kind (t : Tr) : (bareT t).kind = t.kind := by cases t; rfl
/-- Looks, each once. -/
structure Uniq (W : List Tr) : Prop where
  bare : ∀ q ∈ W, bareT q = q
  kind : ∀ q ∈ W, 8 ≤ q.kind
  lv : ∀ q ∈ W, Tr.Lv 40 q
  one : W.Pairwise (fun a b => sameS 40 40 a b = false)
theorem uniq_one {W : List Tr} {t : Tr} (h : Uniq W) (hk : 8 ≤ t.kind) (ht : Tr.Lv 40 t) : Uniq (lookOne W t) := by
  unfold lookOne
  split
  · exact h
  · rename_i hn
    have hno : ∀ q ∈ W, sameS 40 40 q (bareT t) = false := fun q hq => by
      cases e : sameS 40 40 q (bareT t) with
      | false => rfl
      | true => exact absurd (List.any_eq_true.2 ⟨q, hq, e⟩) hn
    refine ⟨fun q hq => ?_, fun q hq => ?_, fun q hq => ?_, ?_⟩
    · rcases List.mem_append.1 hq with hq | hq
      · exact h.bare q hq
      · rw [List.mem_singleton.1 hq]; exact bare_bare t
    · rcases List.mem_append.1 hq with hq | hq
      · exact h.kind q hq
      · rw [List.mem_singleton.1 hq, bare_kind]; exact hk
    · rcases List.mem_append.1 hq with hq | hq
      · exact h.lv q hq
      · rw [List.mem_singleton.1 hq]; exact bare_lv ht
    · rw [List.pairwise_append]
      exact ⟨h.one, List.pairwise_singleton _ _, fun a ha b hb => by rw [List.mem_singleton.1 hb]; exact hno a ha⟩
theorem uniq_foldl {f : List Tr → Tr → List Tr} {l : List Tr} (hf : ∀ W, ∀ t ∈ l, Uniq W → Uniq (f W t)) : ∀ {W : List Tr}, Uniq W → Uniq (l.foldl f W) := by
  induction l with
  | nil => exact fun h => h
  | cons t l ih =>
    intro W h
    rw [List.foldl_cons]
    exact ih (fun W q hq => hf W q (List.mem_cons_of_mem _ hq)) (hf W t (by simp) h)
theorem uniq_refL : ∀ (k : Nat) (W : List Tr) (t : Tr), k ≤ 40 → Tr.Lv k t → Uniq W → Uniq (refL k W t)
  | 0, _, _, _, h, _ => h.elim
  | k + 1, W, t, hk, ht, h => by
    have h2 : Uniq (t.parts.foldl (refL k) W) := uniq_foldl (fun W p hp q => uniq_refL k W p (by omega) (ht p hp) q) h
    unfold refL
    split
    · exact h2
    · exact uniq_one h2 (by omega) (lv_le (k := k + 1) ht (by omega))
theorem uniq_nil : Uniq [] := ⟨fun q h => absurd h List.not_mem_nil, fun q h => absurd h List.not_mem_nil, fun q h => absurd h List.not_mem_nil, List.Pairwise.nil⟩
theorem uniq_all {l : List Tr} (h : ∀ t ∈ l, Tr.Lv 40 t) : Uniq (refAll l) := uniq_foldl (fun W t ht q => uniq_refL 40 W t (Nat.le_refl _) (h t ht) q) uniq_nil
/-- The reference's list. -/
theorem refAll_eq {K : Nat} (hK : 40 ≤ K) : ∀ (l W : List Tr), (∀ t ∈ l, Tr.Lv K t ∧ Tr.Lv 40 t) → (∀ q ∈ W, Tr.Lv 40 q) → l.foldl (looksR K K) W = l.foldl (refL 40) W
  | [], _, _, _ => rfl
  | t :: l, W, h, hW => by
    have ht := h t (by simp)
    obtain ⟨e, h2⟩ := looksR_eq hK 40 W t (Nat.le_refl _) ht.2 hW
    rw [List.foldl_cons, List.foldl_cons, looksR_any ht.1 ht.2, e]
    exact refAll_eq hK l _ (fun q hq => h q (List.mem_cons_of_mem _ hq)) h2
/- Index. -/
theorem same_rel {L W : List Tr} (h : RelL L W) {i j : Nat} (h1 : i < L.length) (h2 : i < W.length) (h3 : j < W.length) : sameS 40 40 L[i] W[j] = sameS 40 40 W[i] W[j] := by
  have lj := h.2.2 _ (List.getElem_mem h3)
  rw [Bool.eq_iff_iff, same_iff 40 40 40 _ _ (h.2.1 _ (List.getElem_mem h1)) lj (Nat.le_refl _) (by omega), same_iff 40 40 40 _ _ (h.2.2 _ (List.getElem_mem h2)) lj (Nat.le_refl _) (by omega), h.at i h1 h2]
theorem same_self {t : Tr} (h : Tr.Lv 40 t) : sameS 40 40 t t = true := (same_iff 40 40 40 t t h h (Nat.le_refl _) (by omega)).2 rfl
theorem idx_is {f : Tr → Bool} : ∀ (L : List Tr) (i j : Nat), (hi : i < L.length) → f L[i] = true → (∀ k (h : k < i), f (L[k]'(by omega)) = false) → idxFrom f L j = (j + i : Nat)
  | q :: L, 0, j, _, hf, _ => by
    unfold idxFrom
    rw [if_pos (by exact hf)]; rfl
  | q :: L, i + 1, j, hi, hf, hn => by
    unfold idxFrom
    rw [if_neg (by have := hn 0 (by omega); rw [show f q = false from this]; decide), idx_is L i (j + 1) (by simpa using hi) hf (fun k h => hn (k + 1) (by omega))]
    omega
theorem idx_none {f : Tr → Bool} : ∀ (L : List Tr) (j : Nat), (∀ q ∈ L, f q = false) → idxFrom f L j = -1
  | [], _, _ => rfl
  | q :: L, j, h => by
    unfold idxFrom
    rw [if_neg (by rw [h q (by simp)]; decide)]
    exact idx_none L (j + 1) (fun p hp => h p (List.mem_cons_of_mem _ hp))
theorem idx_at {L W : List Tr} (h : RelL L W) (hu : Uniq W) {i : Nat} (hi : i < W.length) {t : Tr} (ht : bareT t = W[i]) : idxS L t = i := by
  have hl := h.length
  unfold idxS
  rw [ht]
  have hx := idx_is (f := fun q => sameS 40 40 q W[i]) L i 0 (by omega) (by
    show sameS 40 40 L[i] W[i] = true
    rw [same_rel h (by omega) hi hi]
    exact same_self (hu.lv _ (List.getElem_mem hi))) (fun k hk => by
    show sameS 40 40 (L[k]'(by omega)) W[i] = false
    rw [same_rel h (by omega) (by omega) hi]
    exact List.pairwise_iff_getElem.1 hu.one k i (by omega) hi hk)
  rw [hx, Nat.zero_add]
theorem kind_rel {L W : List Tr} (h : RelL L W) {i : Nat} (h1 : i < L.length) (h2 : i < W.length) : L[i].kind = W[i].kind := (strip_parts (k := 39) (h.at i h1 h2)).1
theorem late_rel {L W : List Tr} (h : RelL L W) : L.any (fun q => decide (q.kind = 8) || decide (q.kind = 11)) = W.any (fun q => decide (q.kind = 8) || decide (q.kind = 11)) := by
  have hl := h.length
  rw [Bool.eq_iff_iff, List.any_eq_true, List.any_eq_true]
  constructor
  · rintro ⟨q, hq, e⟩
    obtain ⟨i, hi, rfl⟩ := List.getElem_of_mem hq
    exact ⟨W[i]'(by omega), List.getElem_mem _, by rw [← kind_rel h hi (by omega)]; exact e⟩
  · rintro ⟨q, hq, e⟩
    obtain ⟨i, hi, rfl⟩ := List.getElem_of_mem hq
    exact ⟨L[i]'(by omega), List.getElem_mem _, by rw [kind_rel h (by omega) hi]; exact e⟩
def leafT (k : Int) : Tr := .node k ⟨0, 0, 0, 0⟩ none 0 0 [] 0 0 false
theorem leaf_in (w : World) (k : Int) (hk : I64 k) (m : Nat) : Tr.Ins w (m + 1) (leafT k) :=
  ⟨⟨⟨(show (St.mk 0 0 0 0).Ok from ⟨by unfold U64; exact Nat.zero_lt_succ _, by unfold U64; exact Nat.zero_lt_succ _, by unfold U64; exact Nat.zero_lt_succ _, by unfold U64; exact Nat.zero_lt_succ _⟩), hk, (show I64 0 by unfold I64; omega), (show I64 0 by unfold I64; omega)⟩, ⟨rfl, Nat.zero_le _⟩, fun h => absurd h (Nat.lt_irrefl 0), fun j h => absurd h (Nat.not_lt_zero _)⟩, ⟨fun h => absurd h (Nat.lt_irrefl 0), fun p h => absurd h List.not_mem_nil⟩⟩
theorem idx_empty {L W : List Tr} (h : RelL L W) (hu : Uniq W) : idxS L (leafT 1) = -1 := by
  refine idx_none L 0 (fun q hq => ?_)
  obtain ⟨i, hi, rfl⟩ := List.getElem_of_mem hq
  have hl := h.length
  have hk := hu.kind _ (List.getElem_mem (show i < W.length by omega))
  rw [← kind_rel h hi (by omega)] at hk
  exact sameS_own (k := 39) (own_kind (by show ¬ L[i].kind = 1; omega))

set_option maxRecDepth 100000 in
set_option maxHeartbeats 4000000 in
theorem lawFew13 (K : Nat) (v : Value) (l : List Tr) (w : World) (hv : Pats w K v l) (hl : l.length ≤ 9223372036854775807) :
    Calls Try.prog 5 #[v] w fun e w' => ∃ r : Bool, e = .returned (.bool r) ∧ (r = true → l.length ≤ 20 ∧ ∀ t ∈ l, nodesS K 60 t ≤ 2000) ∧ Below w.heap.size w w' := by
  obtain ⟨A, c, rfl, hrow, hin⟩ := hv
  have HR := Lib.hid hrow
  have HI := Lib.hid hin
  clear hrow hin
  go_enter Try.func5, Try.ntmps5
  go_wp2_with fail
  go_loopw [6] (fun i wr => ∃ j : Nat, j ≤ l.length ∧ i = .int .i64 j ∧ Hid (j ≤ 20 ∧ ∀ t ∈ l.take j, nodesS K 60 t ≤ 2000) ∧ Hid (Below w.heap.size w wr)) (fun i _ => l.length - (intOf i).toNat)
  case atStart => exact ⟨0, Nat.zero_le _, rfl, Lib.hid ⟨Nat.zero_le _, fun t ht => by rw [List.take_zero] at ht; cases ht⟩, Lib.hid (Below.refl _ _)⟩
  case round =>
    obtain ⟨j, hj, rfl, HN, HB⟩ := hrel
    by_cases hlt : j < l.length
    · have hjz : (0 : Int) ≤ (j : Int) := by omega
      have hjn : (j : Int) < (l.length : Int) := by omega
      by_cases h20 : 20 ≤ j
      · have d20 : decide ((20 : Int) ≤ (j : Int)) = true := decide_eq_true (by omega)
        go_wp2_with fail
        go_ret
        exact ⟨false, rfl, fun q => (by cases q), HB.out⟩
      · have d20 : decide ((20 : Int) ≤ (j : Int)) = false := decide_eq_false (by omega)
        obtain ⟨b1, o1, rfl, hb1, hr1⟩ := HR.out (by omega)
        have HX := Lib.hid (range_below (hr1 j hlt) hb1 (Nat.le_refl _) HB.out)
        have HTk : Hid (l.take (j + 1) = l.take j ++ [l[j]]) := Lib.hid (List.take_succ_eq_append_getElem hlt)
        have HIn := Lib.hid ((HI.out _ (List.getElem_mem hlt)).next HB.out)
        obtain ⟨q, hq⟩ : ∃ q, q = l[j] := ⟨_, rfl⟩
        rw [← hq] at HX HTk HIn
        clear hb1 hr1 hq
        have HC := Lib.hid (lawFew K 60 q wr (by decide) (by decide) HIn.out)
        by_cases hf : nodesS K 60 q ≤ 2000
        · rw [decide_eq_true hf] at HC
          have HF : Hid (j + 1 ≤ 20 ∧ ∀ t ∈ l.take (j + 1), nodesS K 60 t ≤ 2000) := Lib.hid ⟨by omega, fun t ht => by
            rw [HTk.out] at ht
            rcases List.mem_append.1 ht with ht | ht
            · exact HN.out.2 t ht
            · rw [List.mem_singleton.1 ht]; exact hf⟩
          clear h20 hf
          go_wp2_with (refine wpList_load_want13 (by rfl) 35 _ rfl b1 (o1 + j * 9) rfl q.cs _ HX.out Try.underlying35 rfl (by rw [Tr.cs_length]; kernel_rfl) ?_)
          refine HC.out.mono ?_
          rintro e w3 ⟨rfl, hb3⟩
          have HB3 := Lib.hid (HB.out.trans (hb3.mono HB.out.size))
          clear hb3
          go_wp2_with fail
          exact ⟨⟨j + 1, by omega, by go_num, HF, HB3⟩, by simp [intOf]; omega⟩
        · rw [decide_eq_false hf] at HC
          clear h20 hf
          go_wp2_with (refine wpList_load_want13 (by rfl) 35 _ rfl b1 (o1 + j * 9) rfl q.cs _ HX.out Try.underlying35 rfl (by rw [Tr.cs_length]; kernel_rfl) ?_)
          refine HC.out.mono ?_
          rintro e w3 ⟨rfl, hb3⟩
          have HB3 := Lib.hid (HB.out.trans (hb3.mono HB.out.size))
          clear hb3
          go_wp2_with fail
          go_ret
          exact ⟨false, rfl, fun q => (by cases q), HB3.out⟩
    · obtain rfl : j = l.length := by omega
      have HF : Hid (l.length ≤ 20 ∧ ∀ t ∈ l, nodesS K 60 t ≤ 2000) := Lib.hid (by have h := HN.out; rw [List.take_length] at h; exact h)
      go_wp2_with fail
      go_ret
      exact ⟨true, rfl, fun _ => HF.out, HB.out⟩

end Go.Proofs.Ytjkcbojlopdonaa
