/- Joined: Seen, Known, NormOrM. -/
import Derived.Test.YtcghclikkeajfaaGreatNodeKey
import Derived.Test.YtcghclikkeajfaaGreatMe
import Derived.Test.YtcghclikkeajfaaGreatMu
import Derived.Test.YtcghclikkeajfaaGreatMf
/- A map of whole numbers that are there. -/
namespace Go.Proofs.YtcghclikkeajfaaGreat
open Go.RowKit Go.Maps
set_option linter.unusedSimpArgs false
set_option linter.unusedVariables false

theorem keyedInt : Keyed Tryz.prog 3 := Maps.int_keyed Tryz.underlying3
theorem keyInt {x : Int} (h : I64 x) : keyOf Tryz.prog 3 (.int .i64 x) = some (.int .i64 x) := Maps.keyOf_int_mk Tryz.underlying3 (WalkArith.wf_i64 (by unfold I64 at h; omega))
/-- How what has no parts reads. -/
def unitR : Value → Option (DataW Unit × List MemPlace)
  | .agg ⟨[]⟩ => some (.agg [], [])
  | _ => none
theorem unitR_is {v : Value} {z : DataW Unit × List MemPlace} (h : unitR v = some z) : v = .agg #[] := by
  unfold unitR at h
  split at h
  · rfl
  · cases h
def SeenAt (w : World) (b n : Nat) (s : List Int) : Prop := ∃ D : DataW Unit, w.ownsMap Tryz.prog 3 unitR b n D ∧ ∀ x, I64 x → has D (.int .i64 x) = decide (x ∈ s)
theorem SeenAt.made (w : World) : SeenAt (w.alloc (.map #[] 0)) w.heap.size 0 [] := ⟨_, World.ownsMap_made _ _ _ _, fun x _ => (show false = decide (x ∈ ([] : List Int)) by simp)⟩
theorem SeenAt.lt {w : World} {b n : Nat} {s : List Int} (h : SeenAt w b n s) : b < w.heap.size := by obtain ⟨D, h1, _⟩ := h; exact h1.lt
theorem SeenAt.kept {w w' : World} {b n : Nat} {s : List Int} (h : SeenAt w b n s) (hb : w'.heap[b]? = w.heap[b]?) : SeenAt w' b n s := by
  obtain ⟨D, ⟨es, clock, h1, h2⟩, h3⟩ := h
  exact ⟨D, ⟨es, clock, hb.trans h1, h2⟩, h3⟩
theorem zeroUnit (w : World) : (zeroValue 98).run Tryz.prog w = .ok (.agg #[]) w := by kernel_rfl
theorem look_no (w : World) {x : Int} (hx : I64 x) : (Instr.lookup 96 (.map none) (.int .i64 x) true).run Tryz.prog w = .ok (.tuple #[.agg #[], .bool false]) w :=
  Maps.look_nil true keyedInt Tryz.underlying96 (zeroUnit w) (keyInt hx)
theorem SeenAt.look {w : World} {b n : Nat} {s : List Int} {x : Int} (h : SeenAt w b n s) (hx : I64 x) : (Instr.lookup 96 (.map (some b)) (.int .i64 x) true).run Tryz.prog w = .ok (.tuple #[.agg #[], .bool (decide (x ∈ s))]) w := by
  obtain ⟨D, hown, hD⟩ := h
  obtain ⟨v, ps, hr, hv⟩ := hown.look_ok keyedInt Tryz.underlying96 (zeroUnit w) (zd := .agg []) (zp := []) rfl (keyInt hx)
  rw [hr, hD x hx, unitR_is hv]
theorem SeenAt.store {w : World} {b n : Nat} {s : List Int} {x : Int} (h : SeenAt w b n s) (hx : I64 x) (hn : n ≤ 1000000) : ∃ w', (Instr.mapUpdate 96 (.map (some b)) (.int .i64 x) (.agg #[])).run Tryz.prog w = .ok () w' ∧ SeenAt w' b (n + 1) (x :: s) ∧ w.grownBy w' (some b) := by
  obtain ⟨D, hown, hD⟩ := h
  obtain ⟨w', hr, h1, h2⟩ := World.ownsMap.update (val := .agg #[]) (d := .agg []) (ps := []) hown keyedInt Tryz.underlying96 (show n < maxLen by unfold maxLen; omega) (keyInt hx) rfl
  refine ⟨w', hr, ⟨_, h1, fun y hy => ?_⟩, h2⟩
  by_cases e : x = y
  · subst e
    rw [has_put_same hown.isMap (keyedInt.key (keyInt hx))]; simp
  · have hk : (Lit.int .i64 y) ≠ Lit.int .i64 x := fun q => by injection q with _ q; exact e q.symm
    rw [has_put_other hk, hD y hy]
    by_cases hm : y ∈ s
    · rw [decide_eq_true hm, decide_eq_true (List.mem_cons_of_mem _ hm)]
    · rw [decide_eq_false hm, decide_eq_false (fun q => by rcases List.mem_cons.1 q with q | q; exact e q.symm; exact hm q)]

end Go.Proofs.YtcghclikkeajfaaGreat

/- A map of nodes that are known to match nothing, or not; a place of an input. -/
namespace Go.Proofs.YtcghclikkeajfaaGreat
open Go.RowKit Go.Maps
set_option linter.unusedSimpArgs false
set_option linter.unusedVariables false

/-- How an answer reads. -/
def ansR : Value → Option (DataW Unit × List MemPlace)
  | .agg ⟨[.bool b]⟩ => some (.lit (.bool b), [])
  | _ => none
theorem ansR_is {v : Value} {b : Bool} {ps : List MemPlace} (h : ansR v = some (.lit (.bool b), ps)) : v = .agg #[.bool b] := by
  unfold ansR at h
  split at h
  · injection h with h
    injection h with h _
    injection h with h
    injection h with h
    rw [h]
  · cases h
def KnownAt (w : World) (b : Nat) (f : Int → Bool) (s : List Int) : Prop := ∃ D : DataW Unit, w.ownsMap Tryz.prog 3 ansR b s.length D ∧ ∀ x, I64 x → has D (.int .i64 x) = decide (x ∈ s) ∧ (x ∈ s → D.atKey (.int .i64 x) (.lit (.bool false)) = .lit (.bool (f x)))
theorem KnownAt.made (w : World) (f : Int → Bool) : KnownAt (w.alloc (.map #[] 0)) w.heap.size f [] := ⟨_, World.ownsMap_made _ _ _ _, fun x _ => ⟨(show false = decide (x ∈ ([] : List Int)) by simp), fun h => by cases h⟩⟩
theorem KnownAt.lt {w : World} {b : Nat} {f : Int → Bool} {s : List Int} (h : KnownAt w b f s) : b < w.heap.size := by obtain ⟨D, h1, _⟩ := h; exact h1.lt
theorem KnownAt.kept {w w' : World} {b : Nat} {f : Int → Bool} {s : List Int} (h : KnownAt w b f s) (hb : w'.heap[b]? = w.heap[b]?) : KnownAt w' b f s := by
  obtain ⟨D, ⟨es, clock, h1, h2⟩, h3⟩ := h
  exact ⟨D, ⟨es, clock, hb.trans h1, h2⟩, h3⟩
theorem zeroAns (w : World) : (zeroValue 117).run Tryz.prog w = .ok (.agg #[.bool false]) w := by kernel_rfl
theorem KnownAt.look {w : World} {b : Nat} {f : Int → Bool} {s : List Int} {x : Int} (h : KnownAt w b f s) (hx : I64 x) : (Instr.lookup 75 (.map (some b)) (.int .i64 x) true).run Tryz.prog w = .ok (.tuple #[.agg #[.bool (decide (x ∈ s) && f x)], .bool (decide (x ∈ s))]) w := by
  obtain ⟨D, hown, hD⟩ := h
  obtain ⟨h1, h2⟩ := hD x hx
  obtain ⟨v, ps, hr, hv⟩ := hown.look_ok keyedInt Tryz.underlying75 (zeroAns w) (zd := .lit (.bool false)) (zp := []) rfl (keyInt hx)
  rw [hr, h1]
  by_cases e : x ∈ s
  · rw [h2 e] at hv
    rw [ansR_is hv, decide_eq_true e, Bool.true_and]
  · rw [atKey_of_not_has (by rw [h1]; exact decide_eq_false e)] at hv
    rw [ansR_is hv, decide_eq_false e, Bool.false_and]
theorem KnownAt.store {w : World} {b : Nat} {f : Int → Bool} {s : List Int} {x : Int} {v : Bool} (h : KnownAt w b f s) (hx : I64 x) (hv : v = f x) (hn : s.length ≤ 1000000) : ∃ w', (Instr.mapUpdate 75 (.map (some b)) (.int .i64 x) (.agg #[.bool v])).run Tryz.prog w = .ok () w' ∧ KnownAt w' b f (x :: s) ∧ w.grownBy w' (some b) := by
  obtain ⟨D, hown, hD⟩ := h
  obtain ⟨w', hr, h1, h2⟩ := World.ownsMap.update (val := .agg #[.bool v]) (d := .lit (.bool v)) (ps := []) hown keyedInt Tryz.underlying75 (show s.length < maxLen by unfold maxLen; omega) (keyInt hx) rfl
  refine ⟨w', hr, ⟨_, h1, fun y hy => ?_⟩, h2⟩
  by_cases e : x = y
  · subst e
    rw [has_put_same hown.isMap (keyedInt.key (keyInt hx)), atKey_put_same hown.isMap (keyedInt.key (keyInt hx)), hv]
    exact ⟨by simp, fun _ => rfl⟩
  · have hk : (Lit.int .i64 y) ≠ Lit.int .i64 x := fun q => by injection q with _ q; exact e q.symm
    obtain ⟨q1, q2⟩ := hD y hy
    rw [has_put_other hk, q1, atKey_put_other hk]
    refine ⟨?_, fun q => q2 ?_⟩
    · by_cases hm : y ∈ s
      · rw [decide_eq_true hm, decide_eq_true (List.mem_cons_of_mem _ hm)]
      · rw [decide_eq_false hm, decide_eq_false (fun q => by rcases List.mem_cons.1 q with q | q; exact e q.symm; exact hm q)]
    · rcases List.mem_cons.1 q with q | q
      · exact absurd q.symm e
      · exact q
theorem nodup_room {n : Nat} : ∀ {s m : List Int}, s.Nodup → (∀ z ∈ s, z ∈ m) → s.length ≤ m.length
  | [], _, _, _ => Nat.zero_le _
  | x :: s, m, hp, h => by
    obtain ⟨h1, h2⟩ := List.nodup_cons.1 hp
    have hx : x ∈ m := h x (by simp)
    have ih := nodup_room (n := n) (m := m.erase x) h2 (fun z hz => (List.mem_erase_of_ne (fun e => h1 (by rw [← e]; exact hz))).2 (h z (List.mem_cons_of_mem _ hz)))
    have := List.length_erase_of_mem hx
    have hpos : 0 < m.length := List.length_pos_of_mem hx
    rw [List.length_cons]
    omega
theorem nodup_in {n : Nat} {s : List Int} (hp : s.Nodup) (h : ∀ z ∈ s, 0 ≤ z ∧ z < (n : Int)) : s.length ≤ n := by
  have := nodup_room (n := n) (m := (List.range n).map Int.ofNat) hp (fun z hz => by
    obtain ⟨h0, h1⟩ := h z hz
    exact List.mem_map.2 ⟨z.toNat, List.mem_range.2 (by omega), by show ((z.toNat : Nat) : Int) = z; omega⟩)
  simpa using this
/-- Block g holds a place, its map in block m: of the nodes in s is known whether they match nothing. -/
structure PlaceAt (w : World) (a : Value) (ns : List Nd) (bits g m : Nat) (s : List Int) : Prop where
  box : At w g 77 #[a, .int .u8 bits, .map (some m)]
  ids : KnownAt w m (nullS ns bits) s
  ne : g ≠ m
  nodup : s.Nodup
  inn : ∀ z ∈ s, isIn ns z
theorem PlaceAt.kept {w w' : World} {a : Value} {ns : List Nd} {bits g m : Nat} {s : List Int} (h : PlaceAt w a ns bits g m s) (hg : w'.heap[g]? = w.heap[g]?) (hm : w'.heap[m]? = w.heap[m]?) : PlaceAt w' a ns bits g m s :=
  ⟨hg.trans h.box, h.ids.kept hm, h.ne, h.nodup, h.inn⟩
theorem PlaceAt.next {w w' : World} {a : Value} {ns : List Nd} {bits g m : Nat} {s : List Int} (h : PlaceAt w a ns bits g m s) (hb : Below w.heap.size w w') : PlaceAt w' a ns bits g m s := h.kept (hb.block _ h.box.lt) (hb.block _ h.ids.lt)
theorem PlaceAt.room {w : World} {a : Value} {ns : List Nd} {bits g m : Nat} {s : List Int} (h : PlaceAt w a ns bits g m s) : s.length ≤ ns.length := nodup_in h.nodup h.inn

end Go.Proofs.YtcghclikkeajfaaGreat

/- What the members of nodes are put together to: mathematics; no program is named. -/
namespace Go.Proofs.YtcghclikkeajfaaGreat
open Go.RowKit
set_option linter.unusedSimpArgs false
set_option linter.unusedVariables false
set_option linter.unusedSectionVars false

/-- ms are the members of the nodes of l. -/
structure Coll (ns : List Nd) (k : Int) (l ms : List Int) : Prop where
  lin : ∀ x ∈ l, isIn ns x
  nd : ms.Nodup
  iff : ∀ y, y ∈ ms ↔ ∃ x ∈ l, y ∈ mem ns k x
def otherB (ns : List Nd) (k y : Int) : Bool := !decide (kd ns y = 2) && !unitB ns k y
/-- The set of the Bytes among them: their union; what they have in common. -/
def BytesOf (ns : List Nd) (k : Int) (ms : List Int) (U : St) : Prop := U.Ok ∧ ∀ b, b < 256 → ((U.has b != decide (k = 5)) = true ↔ ∃ y ∈ ms, kd ns y = 2 ∧ ((ndAt ns y.toNat).set.has b != decide (k = 5)) = true)
section
variable {ns : List Nd} (hc : Canon ns) {k : Int} (hk : k = 4 ∨ k = 5)
include hc hk
theorem Coll.inn {l ms : List Int} (h : Coll ns k l ms) {y : Int} (hy : y ∈ ms) : isIn ns y ∧ kd ns y ≠ k := by
  obtain ⟨x, hx, hm⟩ := (h.iff y).1 hy
  have := mem_in hc.fine hk _ x (Nat.le_refl _) (h.lin x hx) y hm
  exact ⟨this.1, this.2.2⟩
theorem Coll.up {l ms : List Int} (h : Coll ns k l ms) (more : List Nd) : Coll (ns ++ more) k l ms :=
  ⟨fun x hx => (h.lin x hx).up more, h.nd, fun y => by
    rw [h.iff]
    constructor
    · rintro ⟨x, hx, hm⟩
      exact ⟨x, hx, by rw [mem_up hc.fine hk more _ x (Nat.le_refl _) (h.lin x hx)]; exact hm⟩
    · rintro ⟨x, hx, hm⟩
      exact ⟨x, hx, by rw [mem_up hc.fine hk more _ x (Nat.le_refl _) (h.lin x hx)] at hm; exact hm⟩⟩
theorem Coll.few {l ms : List Int} (h : Coll ns k l ms) : ms.length ≤ memN ns k l := by
  have : memN ns k l = (l.flatMap (mem ns k)).length := by unfold memN; rw [List.length_flatMap]
  rw [this]
  exact nodup_room (n := 0) h.nd (fun y hy => by
    obtain ⟨x, hx, hm⟩ := (h.iff y).1 hy
    exact List.mem_flatMap.2 ⟨x, hx, hm⟩)
/-- One that takes all. -/
theorem Coll.top {l ms : List Int} (h : Coll ns k l ms) {y : Int} (hy : y ∈ ms) (ht : topB ns k y = true) : JoinR ns k l y := by
  obtain ⟨x, hx, hm⟩ := (h.iff y).1 hy
  have hyi := (h.inn hc hk hy).1
  refine join_of_top hc hk hyi ht ⟨x, hx, ?_⟩
  by_cases e : kd ns x = k
  · have := ((hc.join k hk x (h.lin x hx) e).2.2.1 y hm).1
    rw [this] at ht; cases ht
  · rw [mem_leaf e, List.mem_singleton] at hm
    rw [← hm]; exact ht
theorem Coll.noTop {l ms : List Int} (h : Coll ns k l ms) (hn : ∀ y ∈ ms, topB ns k y = false) : ∀ x ∈ l, topB ns k x = false := fun x hx => by
  cases q : topB ns k x with
  | false => rfl
  | true =>
    have hkx := topB_kind q
    have : x ∈ ms := (h.iff x).2 ⟨x, hx, by rw [mem_leaf (by omega)]; simp⟩
    rw [hn x this] at q; cases q
/-- None but those that do nothing. -/
theorem Coll.units {l ms : List Int} (h : Coll ns k l ms) (hn : ∀ y ∈ ms, unitB ns k y = true) {u : Int} (hu : isIn ns u) (hb : unitB ns k u = true) : JoinR ns k l u :=
  join_of_units hc hk h.lin hu hb (fun x hx => by
    by_cases e : kd ns x = k
    · obtain ⟨m, hm⟩ := mem_ne hc.fine hk (h.lin x hx)
      have h1 := hn m ((h.iff m).2 ⟨x, hx, hm⟩)
      have h2 := ((hc.join k hk x (h.lin x hx) e).2.2.1 m hm).2
      rw [h2] at h1; cases h1
    · exact hn x ((h.iff x).2 ⟨x, hx, by rw [mem_leaf e]; simp⟩))
/-- Bytes that have nothing in common. -/
theorem Coll.shut {l ms : List Int} (h : Coll ns 5 l ms) {U : St} (hU : BytesOf ns 5 ms U) (he : ∀ b, b < 256 → U.has b = false) {t : Int} (ht : isIn ns t) (hb : topB ns 5 t = true) : JoinR ns 5 l t :=
  join_of_shut ht hb (fun b hb => by
    obtain ⟨y, hy, h2, h3⟩ := (hU.2 b hb).1 (by rw [he b hb]; rfl)
    obtain ⟨x, hx, hm⟩ := (h.iff y).1 hy
    refine ⟨x, hx, y, hm, h2, ?_⟩
    cases q : (ndAt ns y.toNat).set.has b with
    | false => rfl
    | true => rw [q] at h3; simp at h3)
/-- By a list of those that are neither, and a Bytes. -/
theorem Coll.made {l ms sl : List Int} (h : Coll ns k l ms) (hn : ∀ y ∈ ms, topB ns k y = false) {r : Int} (hr : IsList ns k sl r)
    (hsl : ∀ y, kd ns y ≠ 2 → (y ∈ sl ↔ y ∈ ms ∧ otherB ns k y = true))
    (hby : (∃ b, b ∈ sl ∧ kd ns b = 2 ∧ (∃ y ∈ ms, kd ns y = 2) ∧ BytesOf ns k ms (ndAt ns b.toNat).set ∧ ∀ c ∈ sl, kd ns c = 2 → c = b) ∨ ((∀ y ∈ ms, kd ns y ≠ 2) ∧ ∀ c ∈ sl, kd ns c ≠ 2)) : JoinR ns k l r := by
  refine join_of_list hc hk h.lin hr.inn hr.top (h.noTop hc hk hn) (fun y h2 hu => ?_) ?_ (fun b hb => ?_)
  · rw [hr.mems, hsl y h2, ← h.iff]
    constructor
    · rintro ⟨q, _⟩; exact q
    · intro q; exact ⟨q, by unfold otherB; rw [decide_eq_false h2, hu]; rfl⟩
  · rw [hr.mems]
    constructor
    · rintro ⟨y, hy, h2⟩
      rcases hby with ⟨b, _, _, ⟨z, hz, z2⟩, _⟩ | ⟨_, q⟩
      · obtain ⟨x, hx, hm⟩ := (h.iff z).1 hz
        exact ⟨x, hx, z, hm, z2⟩
      · exact absurd h2 (q y hy)
    · rintro ⟨x, hx, y, hm, h2⟩
      rcases hby with ⟨b, b1, b2, _⟩ | ⟨q, _⟩
      · exact ⟨b, b1, b2⟩
      · exact absurd h2 (q y ((h.iff y).2 ⟨x, hx, hm⟩))
  · rw [hr.mems]
    constructor
    · rintro ⟨y, hy, h2, h3⟩
      rcases hby with ⟨c, b1, b2, _, hU, honly⟩ | ⟨_, q⟩
      · rw [honly y hy h2] at h3
        obtain ⟨z, hz, z2, z3⟩ := (hU.2 b hb).1 h3
        obtain ⟨x, hx, hm⟩ := (h.iff z).1 hz
        exact ⟨x, hx, z, hm, z2, z3⟩
      · exact absurd h2 (q y hy)
    · rintro ⟨x, hx, z, hm, z2, z3⟩
      have hz := (h.iff z).2 ⟨x, hx, hm⟩
      rcases hby with ⟨c, b1, b2, _, hU, honly⟩ | ⟨q, _⟩
      · exact ⟨c, b1, b2, (hU.2 b hb).2 ⟨z, hz, z2, z3⟩⟩
      · exact absurd z2 (q z hz)
omit hc hk in
/-- The list is as it may be put together. -/
theorem good_list {L : List Int} (hnd : L.Nodup) (hm : ∀ y ∈ L, isIn ns y ∧ kd ns y ≠ k ∧ topB ns k y = false ∧ unitB ns k y = false) (h1 : ∀ y ∈ L, ∀ z ∈ L, kd ns y = 2 → kd ns z = 2 → y = z) : GoodL ns k (L.mergeSort fun x y => decide (x ≤ y)) := by
  have hp : (L.mergeSort fun x y => decide (x ≤ y)).Perm L := List.mergeSort_perm _ _
  have hs := List.pairwise_mergeSort (le := fun x y : Int => decide (x ≤ y)) (fun a b c h1 h2 => by simp at *; omega) (fun a b => by simp; omega) L
  have hn : (L.mergeSort fun x y => decide (x ≤ y)).Nodup := hp.nodup_iff.2 hnd
  refine ⟨?_, fun y hy => hm y (hp.mem_iff.1 hy), fun y hy z hz => h1 y (hp.mem_iff.1 hy) z (hp.mem_iff.1 hz)⟩
  have hand : (L.mergeSort fun x y => decide (x ≤ y)).Pairwise (fun x y => decide (x ≤ y) = true ∧ x ≠ y) := hs.and hn
  exact hand.imp (fun ⟨q1, q2⟩ => by simp at q1; omega)
/-- What was there already is found. -/
theorem join_old {ns1 ns2 : List Nd} {l sl : List Int} {r : Int} (m1 m2 : List Nd) (e1 : ns1 = ns ++ m1) (hst : StepR ns1 k sl 0 ns2 r) (hc1 : Canon ns1) (hj : JoinR ns2 k l r) (hl : ∀ x ∈ l, isIn ns x) (hold : ∃ r0, JoinR ns k l r0) : ns2 = ns1 := by
  obtain ⟨hc2, hls, more, e2, hlen, ho⟩ := hst
  obtain ⟨r0, h0⟩ := hold
  have h0' : JoinR ns2 k l r0 := by
    rw [e2, e1, List.append_assoc]
    exact h0.up hc.fine _ hk hl
  have e : r = r0 := join_eq hc2 hk hj h0' (fun _ => rfl)
  subst e
  have hr1 : isIn ns1 r := by rw [e1]; exact h0.1.up m1
  rw [List.drop_zero] at hls
  have : IsList ns1 k sl r := by
    obtain ⟨q1, q2, q3, q4, q5⟩ := hls
    rw [e2] at q3 q4 q5
    rw [mem_up hc1.fine hk more _ r (Nat.le_refl _) hr1] at q3
    rw [topB_up hc1.fine more hr1] at q4
    rw [unitB_up hc1.fine more hr1] at q5
    exact ⟨q1, hr1, q3, q4, q5⟩
  have hm := ho ⟨r, this⟩
  rw [e2, hm, List.append_nil]
end

end Go.Proofs.YtcghclikkeajfaaGreat
