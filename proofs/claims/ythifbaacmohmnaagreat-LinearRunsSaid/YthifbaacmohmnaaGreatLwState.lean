/- The state of a walk of package linear, as it lies in memory. -/
import Derived.Test.YthifbaacmohmnaaGreatMal
import Derived.Test.YthifbaacmohmnaaGreatMam
import Derived.Test.YthifbaacmohmnaaGreatMat
import Derived.Test.YthifbaacmohmnaaGreatMax
namespace Go.Proofs.YthifbaacmohmnaaGreat
open Go.RowKit Go.Maps
set_option linter.unusedSimpArgs false
set_option linter.unusedVariables false

/- A map of formulas by numbers. -/
def fmR (v : Value) : Option (DataW Value × List MemPlace) := some (.held v, [])
theorem own_tight {H : Type} {P : Program} {k : TypeId} {R : Value → Option (DataW H × List MemPlace)} {w : World} {b n : Nat} {D : DataW H} (h : w.ownsMap P k R b n D) : w.ownsMap P k R b (Maps.size D) D := by
  obtain ⟨es, clock, hb, F, hs, rfl⟩ := h
  refine ⟨es, clock, hb, F, ?_, rfl⟩
  have e1 : Maps.size (DataW.map ((es.toList.map (WideElems.rg P k R)).foldr DataW.insert [])) = es.size := by simp [Maps.size, length_sorted]
  exact Nat.le_of_eq e1.symm
structure MapF (w : World) (m : Nat) (s : List Int) (get : Int → Value) : Prop where
  ex : ∃ D : DataW Value, w.ownsMap Tryz.prog 3 fmR m s.length D ∧ ∀ x, I64 x → has D (.int .i64 x) = decide (x ∈ s) ∧ (x ∈ s → D.atKey (.int .i64 x) (.held (.slice none 0 0)) = .held (get x))
  nodup : s.Nodup
theorem MapF.made (w : World) (get : Int → Value) : MapF (w.alloc (.map #[] 0)) w.heap.size [] get := ⟨⟨_, World.ownsMap_made _ _ _ _, fun x _ => ⟨(show false = decide (x ∈ ([] : List Int)) by simp), fun h => by cases h⟩⟩, List.nodup_nil⟩
section
variable {w w' : World} {m : Nat} {s : List Int} {get : Int → Value}
theorem MapF.lt (h : MapF w m s get) : m < w.heap.size := by obtain ⟨D, h1, _⟩ := h.ex; exact h1.lt
theorem MapF.kept (h : MapF w m s get) (hb : w'.heap[m]? = w.heap[m]?) : MapF w' m s get := by
  obtain ⟨D, ⟨es, clock, h1, h2⟩, h3⟩ := h.ex
  exact ⟨⟨D, ⟨es, clock, hb.trans h1, h2⟩, h3⟩, h.nodup⟩
theorem zeroFm (w : World) : (zeroValue 29).run Tryz.prog w = .ok (.slice none 0 0) w := by kernel_rfl
set_option maxRecDepth 100000 in
theorem MapF.look (h : MapF w m s get) {x : Int} (hx : I64 x) : (Instr.lookup 98 (.map (some m)) (.int .i64 x) true).run Tryz.prog w = .ok (.tuple #[if x ∈ s then get x else .slice none 0 0, .bool (decide (x ∈ s))]) w := by
  obtain ⟨D, hown, hD⟩ := h.ex
  obtain ⟨h1, h2⟩ := hD x hx
  obtain ⟨v, ps, hr, hv⟩ := hown.look_ok keyedInt Tryz.underlying98 (zeroFm w) (zd := .held (.slice none 0 0)) (zp := []) rfl (keyInt hx)
  rw [hr, h1]
  unfold fmR at hv
  injection hv with hv
  injection hv with hv _
  by_cases e : x ∈ s
  · rw [h2 e] at hv
    injection hv with hv
    rw [hv, if_pos e]
  · rw [atKey_of_not_has (by rw [h1]; exact decide_eq_false e)] at hv
    injection hv with hv
    rw [hv, if_neg e]
theorem MapF.store (h : MapF w m s get) {x : Int} (hx : I64 x) (v : Value) (hn : s.length ≤ 1000000) : ∃ w', (Instr.mapUpdate 98 (.map (some m)) (.int .i64 x) v).run Tryz.prog w = .ok () w' ∧ MapF w' m (if x ∈ s then s else x :: s) (fun y => if y = x then v else get y) ∧ w.grownBy w' (some m) := by
  obtain ⟨D, hown, hD⟩ := h.ex
  obtain ⟨w', hr, h1, h2⟩ := World.ownsMap.update (val := v) (d := .held v) (ps := []) hown keyedInt Tryz.underlying98 (show s.length < maxLen by unfold maxLen; omega) (keyInt hx) rfl
  have hsz := size_put (hown.tidy keyedInt) (k := .int .i64 x) (DataW.held v)
  have hle := hown.size_le
  refine ⟨w', hr, ⟨⟨_, (own_tight h1).mono ?_, fun y hy => ?_⟩, ?_⟩, h2⟩
  · rw [hsz, (hD x hx).1]
    by_cases e : x ∈ s
    · rw [if_pos (decide_eq_true e), if_pos e]; exact hle
    · rw [if_neg (by rw [decide_eq_false e]; simp), if_neg e, List.length_cons]; omega
  · have hmem : (y ∈ (if x ∈ s then s else x :: s)) ↔ y = x ∨ y ∈ s := by
      by_cases e : x ∈ s
      · rw [if_pos e]
        exact ⟨Or.inr, fun q => q.elim (fun z => by rw [z]; exact e) id⟩
      · rw [if_neg e, List.mem_cons]
    by_cases e : x = y
    · subst e
      rw [has_put_same hown.isMap (keyedInt.key (keyInt hx)), atKey_put_same hown.isMap (keyedInt.key (keyInt hx)), if_pos rfl]
      exact ⟨(decide_eq_true (hmem.2 (Or.inl rfl))).symm, fun _ => rfl⟩
    · have hk : (Lit.int .i64 y) ≠ Lit.int .i64 x := fun q => by injection q with _ q; exact e q.symm
      obtain ⟨q1, q2⟩ := hD y hy
      rw [has_put_other hk, q1, atKey_put_other hk, if_neg (show ¬ y = x from fun q => e q.symm)]
      refine ⟨?_, fun q => q2 ?_⟩
      · by_cases hm : y ∈ s
        · rw [decide_eq_true hm, decide_eq_true (hmem.2 (Or.inr hm))]
        · rw [decide_eq_false hm, decide_eq_false (fun q => by rcases hmem.1 q with q | q; exact e q.symm; exact hm q)]
      · rcases hmem.1 q with q | q
        · exact absurd q.symm e
        · exact q
  · by_cases e : x ∈ s
    · rw [if_pos e]; exact h.nodup
    · rw [if_neg e]; exact List.nodup_cons.2 ⟨e, h.nodup⟩
end
/- A map of what matches no bytes. -/
theorem zeroNull (w : World) : (zeroValue 107).run Tryz.prog w = .ok (.agg #[.bool false]) w := by kernel_rfl
theorem KnownAt.lookN {w : World} {b : Nat} {f : Int → Bool} {s : List Int} {x : Int} (h : KnownAt w b f s) (hx : I64 x) : (Instr.lookup 99 (.map (some b)) (.int .i64 x) true).run Tryz.prog w = .ok (.tuple #[.agg #[.bool (decide (x ∈ s) && f x)], .bool (decide (x ∈ s))]) w := by
  obtain ⟨D, hown, hD⟩ := h
  obtain ⟨h1, h2⟩ := hD x hx
  obtain ⟨v, ps, hr, hv⟩ := hown.look_ok keyedInt Tryz.underlying99 (zeroNull w) (zd := .lit (.bool false)) (zp := []) rfl (keyInt hx)
  rw [hr, h1]
  by_cases e : x ∈ s
  · rw [h2 e] at hv
    rw [ansR_is hv, decide_eq_true e, Bool.true_and]
  · rw [atKey_of_not_has (by rw [h1]; exact decide_eq_false e)] at hv
    rw [ansR_is hv, decide_eq_false e, Bool.false_and]
theorem KnownAt.storeN {w : World} {b : Nat} {f : Int → Bool} {s : List Int} {x : Int} {v : Bool} (h : KnownAt w b f s) (hx : I64 x) (hv : v = f x) (hn : s.length ≤ 1000000) : ∃ w', (Instr.mapUpdate 99 (.map (some b)) (.int .i64 x) (.agg #[.bool v])).run Tryz.prog w = .ok () w' ∧ KnownAt w' b f (if x ∈ s then s else x :: s) ∧ w.grownBy w' (some b) := by
  obtain ⟨D, hown, hD⟩ := h
  obtain ⟨w', hr, h1, h2⟩ := World.ownsMap.update (val := .agg #[.bool v]) (d := .lit (.bool v)) (ps := []) hown keyedInt Tryz.underlying99 (show s.length < maxLen by unfold maxLen; omega) (keyInt hx) rfl
  have hsz := size_put (hown.tidy keyedInt) (k := .int .i64 x) (DataW.lit (.bool v))
  have hle := hown.size_le
  refine ⟨w', hr, ⟨_, (own_tight h1).mono ?_, fun y hy => ?_⟩, h2⟩
  · rw [hsz, (hD x hx).1]
    by_cases e : x ∈ s
    · rw [if_pos (decide_eq_true e), if_pos e]; exact hle
    · rw [if_neg (by rw [decide_eq_false e]; simp), if_neg e, List.length_cons]; omega
  · have hmem : (y ∈ (if x ∈ s then s else x :: s)) ↔ y = x ∨ y ∈ s := by
      by_cases e : x ∈ s
      · rw [if_pos e]
        exact ⟨Or.inr, fun q => q.elim (fun z => by rw [z]; exact e) id⟩
      · rw [if_neg e, List.mem_cons]
    by_cases e : x = y
    · subst e
      rw [has_put_same hown.isMap (keyedInt.key (keyInt hx)), atKey_put_same hown.isMap (keyedInt.key (keyInt hx)), hv]
      exact ⟨(decide_eq_true (hmem.2 (Or.inl rfl))).symm, fun _ => rfl⟩
    · have hk : (Lit.int .i64 y) ≠ Lit.int .i64 x := fun q => by injection q with _ q; exact e q.symm
      obtain ⟨q1, q2⟩ := hD y hy
      rw [has_put_other hk, q1, atKey_put_other hk]
      refine ⟨?_, fun q => q2 ?_⟩
      · by_cases hm : y ∈ s
        · rw [decide_eq_true hm, decide_eq_true (hmem.2 (Or.inr hm))]
        · rw [decide_eq_false hm, decide_eq_false (fun q => by rcases hmem.1 q with q | q; exact e q.symm; exact hm q)]
      · rcases hmem.1 q with q | q
        · exact absurd q.symm e
        · exact q
/- The numbers of nodes. -/
def Ls (ns : List Nd) : List Int := (List.range ns.length).map Int.ofNat
theorem ls_len (ns : List Nd) : (Ls ns).length = ns.length := by simp [Ls]
theorem ls_mem {ns : List Nd} {n : Int} : n ∈ Ls ns ↔ isIn ns n := by
  unfold Ls isIn
  rw [List.mem_map]
  constructor
  · rintro ⟨k, hk, rfl⟩
    have := List.mem_range.1 hk
    exact ⟨Int.natCast_nonneg _, Int.ofNat_lt.2 this⟩
  · rintro ⟨h0, h1⟩
    exact ⟨n.toNat, List.mem_range.2 (by omega), by show ((n.toNat : Nat) : Int) = n; omega⟩
theorem ls_upTo : ∀ n : Nat, Up ((List.range n).map Int.ofNat)
  | 0 => List.Pairwise.nil
  | n + 1 => by
    rw [List.range_succ, List.map_append]
    refine List.pairwise_append.2 ⟨ls_upTo n, List.pairwise_singleton _ _, fun a ha b hb => ?_⟩
    obtain ⟨k, hk, rfl⟩ := List.mem_map.1 ha
    have h1 : b = Int.ofNat n := by simpa using hb
    have := List.mem_range.1 hk
    rw [h1]
    exact Int.ofNat_lt.2 this
theorem ls_up (ns : List Nd) : Up (Ls ns) := ls_upTo ns.length
theorem ls_more {ns : List Nd} (more : List Nd) : ∀ n ∈ Ls ns, n ∈ Ls (ns ++ more) := fun n hn => ls_mem.2 ((ls_mem.1 hn).up more)
theorem FmIn.inF {ns : List Nd} {f : Fm} (h : FmIn (Ls ns) f) : InF ns f := fun p hp n hn => ls_mem.1 (h.inn p hp n hn)
theorem FmIn.up {ns : List Nd} {f : Fm} (h : FmIn (Ls ns) f) (more : List Nd) : FmIn (Ls (ns ++ more)) f := h.mono (ls_more more)
/-- What a walk is made of. -/
structure LP where
  gw : Nat
  mf : Nat
  ml : Nat
  mn : Nat
  a : Value
  b : Nat
  bt : Nat
  before : Nat
  /-- What those who call may turn. -/
  y : Nat → Prop
/-- What may turn in a walk. -/
def XB (p : LP) (F : Nat → Prop) (x : Nat) : Prop := F x ∨ x = p.gw ∨ x = p.mf ∨ x = p.ml ∨ x = p.mn
/-- .. or by those who call it. -/
def XY (p : LP) (F : Nat → Prop) (x : Nat) : Prop := XB p F x ∨ p.y x
theorem OffF.wide {F F' : Nat → Prop} {w w' : World} (h : OffF F w w') (hs : ∀ b, F b → F' b) : OffF F' w w' := ⟨h.os, h.tape, h.output, h.size, fun b hb hn => h.block b hb (fun q => hn (hs b q))⟩
theorem OffF.xy {p : LP} {F : Nat → Prop} {w w' : World} (h : OffF (XB p F) w w') : OffF (XY p F) w w' := h.wide (fun b q => Or.inl q)
structure Kept (X : Nat → Prop) (w : World) (m : Nat) (ns : List Nd) (many : Bool) (R : Int → Fm → Prop) : Prop where
  ex : ∃ s get, MapF w m s get ∧ ∀ x ∈ s, isIn ns x ∧ ∃ f, Keeps X w (get x) f ∧ FmIn (Ls ns) f ∧ (many = false → R x f)
def NullsAt (w : World) (m : Nat) (ns : List Nd) (bt : Nat) : Prop := ∃ s, KnownAt w m (nullS ns bt) s ∧ s.Nodup ∧ ∀ z ∈ s, isIn ns z
def lwC (p : LP) (many : Bool) : Array Value := #[p.a, .int .u8 p.b, .int .u8 p.bt, .map (some p.mf), .map (some p.ml), .map (some p.mn), .int .i64 p.before, .bool many]
structure LW (p : LP) (w : World) (ns : List Nd) (F : Nat → Prop) (many : Bool) : Prop where
  ar : AA w p.a ns F
  box : At w p.gw 101 (lwC p many)
  fo : Kept (XY p F) w p.mf ns many (fun x f => OfR ns x ns f)
  le : Kept (XY p F) w p.ml ns many (fun x f => LeftR ns x p.b p.bt ns f)
  nu : NullsAt w p.mn ns p.bt
  d : p.gw ≠ p.mf ∧ p.gw ≠ p.ml ∧ p.gw ≠ p.mn ∧ p.mf ≠ p.ml ∧ p.mf ≠ p.mn ∧ p.ml ≠ p.mn
  out : ¬ F p.gw ∧ ¬ F p.mf ∧ ¬ F p.ml ∧ ¬ F p.mn
  b8 : p.b < 256 ∧ p.bt < 256
  ylow : ∀ b, p.y b → b < w.heap.size
theorem null_up {ns : List Nd} {bt : Nat} {x : Int} (hx : isIn ns x) (more : List Nd) : nullS (ns ++ more) bt x = nullS ns bt x := by
  have h1 := hx
  have h2 := hx.up more
  unfold isIn at h1 h2
  unfold nullS
  rw [nodeT_up [] [bt] more hx, decide_eq_true h1, decide_eq_true h2]
section
variable {p : LP} {w w' : World} {ns : List Nd} {F F' : Nat → Prop} {many : Bool}
theorem LW.lts (h : LW p w ns F many) : p.gw < w.heap.size ∧ p.mf < w.heap.size ∧ p.ml < w.heap.size ∧ p.mn < w.heap.size := by
  obtain ⟨s, get, h1, _⟩ := h.fo.ex
  obtain ⟨s2, get2, h2, _⟩ := h.le.ex
  obtain ⟨s3, h3, _⟩ := h.nu
  exact ⟨h.box.lt, h1.lt, h2.lt, h3.lt⟩
theorem LW.low (h : LW p w ns F many) : ∀ b, XB p F b → b < w.heap.size := fun b q => by
  obtain ⟨h1, h2, h3, h4⟩ := h.lts
  rcases q with q | rfl | rfl | rfl | rfl
  · exact h.ar.low b q
  · exact h1
  · exact h2
  · exact h3
  · exact h4
theorem LW.lowY (h : LW p w ns F many) : ∀ b, XY p F b → b < w.heap.size := fun b q => q.elim (h.low b) (h.ylow b)
theorem LW.few (h : LW p w ns F many) : ns.length ≤ 20000 := arenaAny.max h.ar
theorem LW.fine (h : LW p w ns F many) : FineN ns := arenaAny.fine h.ar
theorem Keeps.at {X : Nat → Prop} {w : World} {v : Value} {f : Fm} (h : Keeps X w v f) : ∃ A c, v = .slice A f.length c := by
  obtain ⟨A, c, e, _⟩ := h.here
  exact ⟨A, c, e⟩
theorem Kept.up {X X' : Nat → Prop} {m : Nat} {R R' : Int → Fm → Prop} (h : Kept X w m ns many R) (hb : w'.heap[m]? = w.heap[m]?) (ho : OffF X w w') (hX : ∀ b, X' b → X b ∨ w.heap.size ≤ b) (more : List Nd) (hR : ∀ x f, isIn ns x → FmIn (Ls ns) f → R x f → R' x f) : Kept X' w' m (ns ++ more) many R' := by
  obtain ⟨s, get, h1, h2⟩ := h.ex
  refine ⟨s, get, h1.kept hb, fun x hx => ?_⟩
  obtain ⟨i, f, k1, k2, k3⟩ := h2 x hx
  exact ⟨i.up more, f, k1.step ho hX, k2.up more, fun q => hR x f i k2 (k3 q)⟩
theorem ofR_up {ns : List Nd} {x : Int} {f : Fm} (hx : isIn ns x) (hi : FmIn (Ls ns) f) (more : List Nd) (h : OfR ns x ns f) : OfR (ns ++ more) x (ns ++ more) f := by
  unfold OfR
  rw [ndTv_up hx]
  exact Den.up h hi.inF more
theorem leftR_up {ns : List Nd} {x : Int} {b bt : Nat} {f : Fm} (hx : isIn ns x) (hi : FmIn (Ls ns) f) (more : List Nd) (h : LeftR ns x b bt ns f) : LeftR (ns ++ more) x b bt (ns ++ more) f := by
  unfold LeftR
  rw [ndTv_up hx]
  exact Den.up h hi.inF more
theorem NullsAt.up {m bt : Nat} (h : NullsAt w m ns bt) (hb : w'.heap[m]? = w.heap[m]?) (more : List Nd) : NullsAt w' m (ns ++ more) bt := by
  obtain ⟨s, ⟨D, h1, h2⟩, h3, h4⟩ := h
  refine ⟨s, KnownAt.kept ⟨D, h1, fun x hx => ⟨(h2 x hx).1, fun q => ?_⟩⟩ hb, h3, fun z hz => (h4 z hz).up more⟩
  rw [null_up (h4 x q) more]
  exact (h2 x hx).2 q
/-- Behind a call of the arena alone. -/
theorem LW.grow (h : LW p w ns F many) {more : List Nd} (hA : AA w' p.a (ns ++ more) F') (hF : ∀ b, F' b → F b ∨ w.heap.size ≤ b) (ho : OffF F w w') : LW p w' (ns ++ more) F' many := by
  obtain ⟨l1, l2, l3, l4⟩ := h.lts
  obtain ⟨o1, o2, o3, o4⟩ := h.out
  have hX : ∀ b, XY p F' b → XY p F b ∨ w.heap.size ≤ b := fun b q => by
    rcases q with (q | q) | q
    · exact (hF b q).imp (fun z => Or.inl (Or.inl z)) id
    · exact Or.inl (Or.inl (Or.inr q))
    · exact Or.inl (Or.inr q)
  have hO : OffF (XY p F) w w' := ho.wide (fun b q => Or.inl (Or.inl q))
  refine ⟨hA, (ho.block _ l1 o1).trans h.box, h.fo.up (ho.block _ l2 o2) hO hX more (fun x f hx hi q => ofR_up hx hi more q), h.le.up (ho.block _ l3 o3) hO hX more (fun x f hx hi q => leftR_up hx hi more q), h.nu.up (ho.block _ l4 o4) more, h.d, ⟨fun q => ?_, fun q => ?_, fun q => ?_, fun q => ?_⟩, h.b8, fun b q => Nat.lt_of_lt_of_le (h.ylow b q) ho.size⟩
  · exact (hF _ q).elim o1 (fun z => by omega)
  · exact (hF _ q).elim o2 (fun z => by omega)
  · exact (hF _ q).elim o3 (fun z => by omega)
  · exact (hF _ q).elim o4 (fun z => by omega)
theorem LW.next (h : LW p w ns F many) (hb : Below w.heap.size w w') : LW p w' ns F many := by
  have := h.grow (more := []) (F' := F) (by rw [List.append_nil]; exact h.ar.next hb) (fun b q => Or.inl q) (OffF.of hb)
  rwa [List.append_nil] at this
theorem lwC_set (p : LP) (many many' : Bool) : (lwC p many).setIfInBounds 7 (.bool many') = lwC p many' := rfl
/-- Behind a change of many. -/
theorem LW.setMany (h : LW p w ns F many) (many' : Bool) (hm : many = true → many' = true) : LW p (w.setCell ⟨p.gw, 7, none⟩ (.bool many')) ns F many' := by
  obtain ⟨d1, d2, d3, d4⟩ := h.d
  have ho : OffF (XB p F) w (w.setCell ⟨p.gw, 7, none⟩ (.bool many')) := (OffF.of (Below.refl _ w)).set (Or.inr (Or.inl rfl)) _
  have hb : ∀ b, b ≠ p.gw → (w.setCell ⟨p.gw, 7, none⟩ (.bool many')).heap[b]? = w.heap[b]? := fun b hb => Below.heap_setCell w ⟨p.gw, 7, none⟩ _ b hb
  have hk : ∀ {m : Nat} {R : Int → Fm → Prop}, p.gw ≠ m → Kept (XY p F) w m ns many R → Kept (XY p F) (w.setCell ⟨p.gw, 7, none⟩ (.bool many')) m ns many' R := fun {m R} hne k => by
    obtain ⟨s, get, h1, h2⟩ := k.ex
    refine ⟨s, get, h1.kept (hb _ (fun e => hne e.symm)), fun x hx => ?_⟩
    obtain ⟨i, f, k1, k2, k3⟩ := h2 x hx
    exact ⟨i, f, k1.step ho.xy (fun b q => Or.inl q), k2, fun q => k3 (by cases many with | false => rfl | true => rw [hm rfl] at q; cases q)⟩
  refine ⟨h.ar.keep (fun b q => hb b (fun e => h.out.1 (by rw [← e]; exact q))), by have := h.box.set 7 (.bool many'); rwa [lwC_set] at this, hk d1 h.fo, hk d2 h.le, ?_, h.d, h.out, h.b8, fun b q => by rw [World.size_setCell]; exact h.ylow b q⟩
  obtain ⟨s, k1, k2⟩ := h.nu
  exact ⟨s, k1.kept (hb _ (fun e => d3 e.symm)), k2⟩
end
/-- How a walk has come from one state to another one. -/
structure Grow (p : LP) (w : World) (ns : List Nd) (F : Nat → Prop) (many : Bool) (w1 : World) (ns1 : List Nd) (F1 : Nat → Prop) (many1 : Bool) : Prop where
  more : ∃ m, ns1 = ns ++ m
  lw : LW p w1 ns1 F1 many1
  low : ∀ b, F1 b → F b ∨ w.heap.size ≤ b
  off : OffF (XB p F) w w1
  mono : many = true → many1 = true
section
variable {p : LP} {w w1 w2 : World} {ns ns1 ns2 : List Nd} {F F1 F2 : Nat → Prop} {many many1 many2 : Bool}
theorem Grow.refl (h : LW p w ns F many) : Grow p w ns F many w ns F many := ⟨⟨[], (List.append_nil _).symm⟩, h, fun b q => Or.inl q, OffF.of (Below.refl _ _), id⟩
theorem Grow.size (g : Grow p w ns F many w1 ns1 F1 many1) : w.heap.size ≤ w1.heap.size := g.off.size
theorem Grow.xlow (g : Grow p w ns F many w1 ns1 F1 many1) : ∀ b, XB p F1 b → XB p F b ∨ w.heap.size ≤ b := fun b q => by
  rcases q with q | q
  · exact (g.low b q).imp Or.inl id
  · exact Or.inl (Or.inr q)
theorem Grow.xylow (g : Grow p w ns F many w1 ns1 F1 many1) : ∀ b, XY p F1 b → XY p F b ∨ w.heap.size ≤ b := fun b q => by
  rcases q with q | q
  · exact (g.xlow b q).imp Or.inl id
  · exact Or.inl (Or.inr q)
theorem Grow.trans (g : Grow p w ns F many w1 ns1 F1 many1) (g2 : Grow p w1 ns1 F1 many1 w2 ns2 F2 many2) : Grow p w ns F many w2 ns2 F2 many2 := by
  obtain ⟨m, rfl⟩ := g.more
  obtain ⟨m2, rfl⟩ := g2.more
  refine ⟨⟨m ++ m2, by rw [List.append_assoc]⟩, g2.lw, fun b q => ?_, g.off.off g2.off g.xlow, fun q => g2.mono (g.mono q)⟩
  rcases g2.low b q with c | c
  · exact g.low b c
  · exact Or.inr (Nat.le_trans g.size c)
theorem Grow.next (g : Grow p w ns F many w1 ns1 F1 many1) (hb : Below w1.heap.size w1 w2) : Grow p w ns F many w2 ns1 F1 many1 := ⟨g.more, g.lw.next hb, g.low, g.off.then hb, g.mono⟩
theorem Grow.of (h : LW p w ns F many) (hb : Below w.heap.size w w1) : Grow p w ns F many w1 ns F many := (Grow.refl h).next hb
/-- A formula that is had stays. -/
theorem Keeps.grow {v : Value} {f : Fm} (h : Keeps (XY p F) w v f) (g : Grow p w ns F many w1 ns1 F1 many1) : Keeps (XY p F1) w1 v f := h.step g.off.xy g.xylow
theorem Grow.isIn (g : Grow p w ns F many w1 ns1 F1 many1) {x : Int} (h : isIn ns x) : isIn ns1 x := by obtain ⟨m, rfl⟩ := g.more; exact h.up m
theorem Grow.fm (g : Grow p w ns F many w1 ns1 F1 many1) {f : Fm} (h : FmIn (Ls ns) f) : FmIn (Ls ns1) f := by obtain ⟨m, rfl⟩ := g.more; exact h.up m
theorem Grow.den (g : Grow p w ns F many w1 ns1 F1 many1) {V : List Nat → List Nat → Nat → Nat → Prop} {s : Nat} {val : List Nat → List Nat → Nat → Nat → Bool} {f : Fm} (hi : FmIn (Ls ns) f) (h : Den V s val ns f) : Den V s val ns1 f := by obtain ⟨m, rfl⟩ := g.more; exact h.up hi.inF m
/-- A call of the arena alone. -/
theorem Got.grow {R : List Nd → Int → Prop} {e : Ending} (h : LW p w ns F many) (g : Got AA w p.a ns F R e w1) : ∃ r ns1 F1, e = .returned (.int .i64 r) ∧ Grow p w ns F many w1 ns1 F1 many ∧ (r = -1 ∨ (Go.Proofs.YthifbaacmohmnaaGreat.isIn ns1 r ∧ R ns1 r)) := by
  obtain ⟨r, more, F', g0, g1, g2, g3, g4⟩ := g
  exact ⟨r, _, F', g0, ⟨⟨more, rfl⟩, h.grow g1 g2 g3, g2, ⟨g3.os, g3.tape, g3.output, g3.size, fun b hb hn => g3.block b hb (fun z => hn (Or.inl z))⟩, id⟩, g4⟩
/-- A formula of its own memory stays. -/
theorem FmFrom.keeps {v : Value} {f : Fm} (h : LW p w ns F many) (hf : FmFrom w.heap.size w1 v f) : Keeps (XY p F) w1 v f := fun w' ho => hf w' (fun b b1 b2 => ho.block b b2 (fun q => by have := h.lowY b q; omega)) ho.size
end
theorem Keeps.less {X X' : Nat → Prop} {w : World} {v : Value} {f : Fm} (h : Keeps X w v f) (hx : ∀ b, X' b → X b) : Keeps X' w v f := fun w' q => h w' (q.wide hx)
theorem Kept.mono {X X' : Nat → Prop} {w w' : World} {m : Nat} {ns : List Nd} {many : Bool} {R : Int → Fm → Prop} (h : Kept X w m ns many R) (hb : w'.heap[m]? = w.heap[m]?) (hk : ∀ v f, Keeps X w v f → Keeps X' w' v f) : Kept X' w' m ns many R := by
  obtain ⟨s, get, h1, h2⟩ := h.ex
  refine ⟨s, get, h1.kept hb, fun x hx => ?_⟩
  obtain ⟨i, f, k1, k2⟩ := h2 x hx
  exact ⟨i, f, hk _ _ k1, k2⟩
section
variable {p : LP} {w w' : World} {ns : List Nd} {F : Nat → Prop} {many : Bool}
/-- Where others may turn more: what is new. -/
theorem LW.addY (h : LW p w ns F many) (hb : Below w.heap.size w w') (y' : Nat → Prop) (hy : ∀ b, y' b → p.y b ∨ (w.heap.size ≤ b ∧ b < w'.heap.size)) : LW { p with y := y' } w' ns F many := by
  have h1 := h.next hb
  have hk : ∀ v f, Keeps (XY p F) w v f → Keeps (XY { p with y := y' } F) w' v f := fun v f k => k.step (OffF.of hb) (fun b q => by
    rcases q with q | q
    · exact Or.inl (Or.inl q)
    · exact (hy b q).imp Or.inr (fun z => z.1))
  refine ⟨h1.ar, h1.box, h.fo.mono (hb.block _ h.lts.2.1) hk, h.le.mono (hb.block _ h.lts.2.2.1) hk, h1.nu, h.d, h.out, h.b8, fun b q => ?_⟩
  rcases hy b q with q | q
  · exact h1.ylow b q
  · exact q.2
theorem LW.lessY {y' : Nat → Prop} (h : LW { p with y := y' } w ns F many) (hy : ∀ b, p.y b → y' b) : LW p w ns F many := by
  have hk : ∀ v f, Keeps (XY { p with y := y' } F) w v f → Keeps (XY p F) w v f := fun v f k => k.less (fun b q => q.imp id (hy b))
  exact ⟨h.ar, h.box, h.fo.mono rfl hk, h.le.mono rfl hk, h.nu, h.d, h.out, h.b8, fun b q => h.ylow b (hy b q)⟩
/-- Others have turned what they may. -/
theorem LW.turnY (h : LW p w ns F many) {row : Option Nat} (hg : w.grownBy w' row) (hr : ∀ b, row = some b → p.y b ∧ ¬ XB p F b) : LW p w' ns F many := by
  obtain ⟨l1, l2, l3, l4⟩ := h.lts
  have hblk : ∀ b, XB p F b → w'.heap[b]? = w.heap[b]? := fun b q => hg.block b (h.low b q) (fun e => (hr b e.symm).2 q)
  have ho : OffF (XY p F) w w' := ⟨hg.os, hg.tape, hg.output, hg.size, fun b hb hn => hg.block b hb (fun e => hn (Or.inr (hr b e.symm).1))⟩
  have hk : ∀ v f, Keeps (XY p F) w v f → Keeps (XY p F) w' v f := fun v f k => k.step ho (fun b q => Or.inl q)
  obtain ⟨s, k1, k2⟩ := h.nu
  exact ⟨h.ar.keep (fun b q => hblk b (Or.inl q)), (hblk _ (Or.inr (Or.inl rfl))).trans h.box, h.fo.mono (hblk _ (Or.inr (Or.inr (Or.inl rfl)))) hk, h.le.mono (hblk _ (Or.inr (Or.inr (Or.inr (Or.inl rfl))))) hk, ⟨s, k1.kept (hblk _ (Or.inr (Or.inr (Or.inr (Or.inr rfl))))), k2⟩, h.d, h.out, h.b8, fun b q => Nat.lt_of_lt_of_le (h.ylow b q) hg.size⟩
end
/-- What a call of a walk answers. -/
def LAns (p : LP) (w : World) (ns : List Nd) (F : Nat → Prop) (many : Bool) (R : List Nd → Fm → Prop) (e : Ending) (w1 : World) : Prop :=
  ∃ (v : Value) (f : Fm) (ns1 : List Nd) (F1 : Nat → Prop) (many1 : Bool), e = .returned v ∧ Grow p w ns F many w1 ns1 F1 many1 ∧ Keeps (XY p F1) w1 v f ∧ FmIn (Ls ns1) f ∧ (many1 = false → R ns1 f)
section
variable {p : LP} {w w1 w2 : World} {ns ns1 : List Nd} {F F1 : Nat → Prop} {many many1 : Bool} {R R' : List Nd → Fm → Prop} {e : Ending}
theorem LAns.seq (g : Grow p w ns F many w1 ns1 F1 many1) (h : LAns p w1 ns1 F1 many1 R e w2) : LAns p w ns F many R e w2 := by
  obtain ⟨v, f, ns2, F2, many2, h0, h1, h2⟩ := h
  exact ⟨v, f, ns2, F2, many2, h0, g.trans h1, h2⟩
theorem LAns.mono (h : LAns p w ns F many R e w1) (hR : ∀ more f, FineN (ns ++ more) → FmIn (Ls (ns ++ more)) f → R (ns ++ more) f → R' (ns ++ more) f) : LAns p w ns F many R' e w1 := by
  obtain ⟨v, f, ns1, F1, many1, h0, h1, h2, h3, h4⟩ := h
  obtain ⟨m, rfl⟩ := h1.more
  exact ⟨v, f, _, F1, many1, h0, h1, h2, h3, fun q => hR m f h1.lw.fine h3 (h4 q)⟩
theorem LAns.done {v : Value} {f : Fm} (g : Grow p w ns F many w1 ns1 F1 many1) (hk : Keeps (XY p F1) w1 v f) (hi : FmIn (Ls ns1) f) (hR : many1 = false → R ns1 f) : LAns p w ns F many R (.returned v) w1 := ⟨v, f, ns1, F1, many1, rfl, g, hk, hi, hR⟩
end

end Go.Proofs.YthifbaacmohmnaaGreat
