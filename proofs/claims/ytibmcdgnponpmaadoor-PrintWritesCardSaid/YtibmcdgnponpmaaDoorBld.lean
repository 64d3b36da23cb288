/- A strings.Builder in memory: what is written into it, and what all else does meanwhile. -/
import Derived.Test.YtibmcdgnponpmaaDoorProg
import Derived.Test.YtibmcdgnponpmaaDoorMa
import Derived.Lib.Builder
import Derived.Lib.AppendStr
import Derived.Laws.OwnMore
import Derived.Deep.AppendLies
namespace Go.Proofs.YtibmcdgnponpmaaDoor
open Go.RowKit
set_option linter.unusedSimpArgs false
set_option linter.unusedVariables false

/-- The block of the builder's bytes. -/
def bufOf (w : World) (b : Nat) : Option Nat := match w.cell? ⟨b, 1, none⟩ with | some v => v.ownBlock | none => none
/-- What writing into the builder in block b leaves: all blocks but its own two; and its bytes move to new blocks alone. -/
structure KeepB (b : Nat) (w w' : World) : Prop where
  os : w'.os = w.os
  tape : w'.tape = w.tape
  output : w'.output = w.output
  size : w.heap.size ≤ w'.heap.size
  block : ∀ k, k < w.heap.size → k ≠ b → some k ≠ bufOf w b → w'.heap[k]? = w.heap[k]?
  buf : bufOf w' b = bufOf w b ∨ ∀ g, bufOf w' b = some g → w.heap.size ≤ g
theorem KeepB.refl (b : Nat) (w : World) : KeepB b w w := ⟨rfl, rfl, rfl, Nat.le_refl _, fun _ _ _ _ => rfl, Or.inl rfl⟩
theorem KeepB.away {b k : Nat} {w w' : World} (h : KeepB b w w') (hk : k < w.heap.size) (hb : some k ≠ bufOf w b) : some k ≠ bufOf w' b := fun e => by
  rcases h.buf with q | q
  · exact hb (e.trans q)
  · have := q k e.symm; omega
theorem KeepB.trans {b : Nat} {w w1 w2 : World} (h : KeepB b w w1) (h' : KeepB b w1 w2) : KeepB b w w2 :=
  ⟨h'.os.trans h.os, h'.tape.trans h.tape, h'.output.trans h.output, Nat.le_trans h.size h'.size, fun k hk h1 h2 => (h'.block k (Nat.lt_of_lt_of_le hk h.size) h1 (h.away hk h2)).trans (h.block k hk h1 h2), by
    rcases h'.buf with q | q
    · rcases h.buf with r | r
      · exact Or.inl (q.trans r)
      · exact Or.inr (fun g hg => r g (q ▸ hg))
    · exact Or.inr (fun g hg => Nat.le_trans h.size (q g hg))⟩
theorem bufOf_same {b : Nat} {w w' : World} (h : w'.heap[b]? = w.heap[b]?) : bufOf w' b = bufOf w b := by
  unfold bufOf
  rw [World.cell?_of_block (w := w) (a := ⟨b, 1, none⟩) h]
theorem KeepB.of {b : Nat} {w w' : World} (h : Below w.heap.size w w') (hb : b < w.heap.size) : KeepB b w w' :=
  ⟨h.os, h.tape, h.output, h.size, fun k hk _ _ => h.block k hk, Or.inl (bufOf_same (h.block b hb))⟩
/-- All that lies below the builder is kept. -/
theorem KeepB.low {b B : Nat} {w w' : World} (h : KeepB b w w') (hb : B ≤ b) (hs : B ≤ w.heap.size) (hg : ∀ g, bufOf w b = some g → B ≤ g) : Below B w w' :=
  ⟨h.os, h.tape, h.output, h.size, fun k hk => h.block k (by omega) (by omega) (fun e => by have := hg k e.symm; omega)⟩

/-- The builder in block b holds the bytes of x. -/
def Bd (w : World) (b : Nat) (x : ByteArray) : Prop := Lib.IsBuilder 40 5 b b (Lib.strCells x) w
section
variable {w w' : World} {b : Nat} {x : ByteArray}
theorem Bd.at (h : Bd w b x) : ∃ p, (p = .pointer none ∨ p = .pointer (some ⟨b, 0, none⟩)) ∧ Lib.BuilderAt 40 5 b b p (Lib.strCells x) w := by
  rcases h with h | h
  · exact ⟨_, Or.inl rfl, h⟩
  · exact ⟨_, Or.inr rfl, h⟩
theorem Bd.lt (h : Bd w b x) : b < w.heap.size := by obtain ⟨p, _, h⟩ := h.at; exact h.lt
theorem bufOf_at {p v : Value} (h : w.heap[b]? = some (.cells #[p, v] 40 (0, 0))) : bufOf w b = v.ownBlock := by
  unfold bufOf
  rw [Lib.cell_of_heap h]; rfl
theorem Bd.buf (h : Bd w b x) : ∀ g, bufOf w b = some g → b < g ∧ g < w.heap.size := by
  obtain ⟨p, _, _, v, hb, hown, hne⟩ := h.at
  intro g hg
  rw [bufOf_at hb] at hg
  have h1 := World.ownsRow.lt hown g hg
  exact ⟨by
    have : g ≠ b := fun e => hne (by rw [hg, e])
    omega, h1.2⟩
theorem Bd.keep (h : Bd w b x) (hb : w'.heap[b]? = w.heap[b]?) (hg : ∀ g, bufOf w b = some g → w'.heap[g]? = w.heap[g]?) : Bd w' b x := by
  have key : ∀ p, Lib.BuilderAt 40 5 b b p (Lib.strCells x) w → Lib.BuilderAt 40 5 b b p (Lib.strCells x) w' := by
    rintro p ⟨h0, v, h1, h2, h3⟩
    refine ⟨h0, v, hb.trans h1, ⟨h2.1, ?_⟩, h3⟩
    rcases h2.2 with q | ⟨g, cap, cur, hv, hbg, hh, r⟩
    · exact Or.inl q
    · exact Or.inr ⟨g, cap, cur, hv, hbg, (hg g (by rw [bufOf_at h1, hv]; rfl)).trans hh, r⟩
  rcases h with h | h
  · exact Or.inl (key _ h)
  · exact Or.inr (key _ h)
theorem Bd.next (h : Bd w b x) (hb : Below w.heap.size w w') : Bd w' b x := h.keep (hb.block b h.lt) (fun g hg => hb.block g (h.buf g hg).2)
end
theorem size_builder : (Tryd.prog.info? 40).map (·.size) = some 2 := by kernel_rfl
theorem lies_builder : liesAt Tryd.prog Tryd.prog.depth 40 (2 / Tryd.prog.cellsOf 40) 0 40 1 = true := by kernel_rfl
theorem at_or {v : Value} {g H n c : Nat} (h : v.ownBlock = some g ∨ g = H) : (Value.slice (some ⟨g, 0, none⟩) n c).ownBlock = v.ownBlock ∨ ∀ g', (Value.slice (some ⟨g, 0, none⟩) n c).ownBlock = some g' → H ≤ g' := by
  rcases h with h | h
  · left; rw [h]; rfl
  · right
    intro g' hg'
    have e : g = g' := by simpa [Value.ownBlock] using hg'
    omega
theorem own_form {w : World} {base : Nat} {e : TypeId} {v : Value} {n : Nat} {xs : List Value} (h : w.ownsRow base e 1 v n xs) : ∃ A c, v = .slice A n c := by
  rcases h.2 with ⟨rfl, rfl⟩ | ⟨g, cap, cur, rfl, _⟩
  · exact ⟨none, 0, rfl⟩
  · exact ⟨_, _, rfl⟩
theorem own_one {w : World} {base : Nat} {e : TypeId} {v : Value} {n : Nat} {xs : List Value} (h : w.ownsRow base e 1 v n xs) : v.oneCell' = true := by
  rcases h.2 with ⟨rfl, _⟩ | ⟨g, cap, cur, rfl, _⟩ <;> rfl
theorem str_app (x y : ByteArray) : Lib.strCells (x ++ y) = Lib.strCells x ++ Lib.strCells y := by
  unfold Lib.strCells
  rw [ByteArray.data_append, Array.toList_append, List.map_append]

set_option maxRecDepth 100000 in
set_option maxHeartbeats 2000000 in
theorem bCheck (b : Nat) (x : ByteArray) (w : World) (h : Bd w b x) : Calls Tryd.prog 35 #[.pointer (some ⟨b, 0, none⟩)] w fun e w' => e = .returned (.tuple #[]) ∧ Lib.BuilderAt 40 5 b b (.pointer (some ⟨b, 0, none⟩)) (Lib.strCells x) w' ∧ KeepB b w w' := by
  obtain ⟨j, hj, hjs⟩ := Option.map_eq_some_iff.1 size_builder
  rcases h with h | h
  · have c0 := h.cell0
    have f0 := h.frozen0
    have hsh := h.shape
    have hlt := h.lt
    have H := Lib.hid h
    clear h
    go_enter Tryd.func35, Tryd.ntmps35
    go_wp2_with fail
    rw [Lib.run_to_unsafe w ⟨b, 0, none⟩ Tryd.underlying37 Tryd.underlying66 hj (by rw [hjs]; decide) hsh (Nat.zero_lt_succ 1)]
    simp only [Result.andThen]
    rw [Oper.upon_value]
    go_wp2_with fail
    rw [run_callFunc_extern Tryd.func44 (by kernel_rfl) (by kernel_rfl) (by kernel_rfl) (e := Extern.AbiNoEscape.same) (by kernel_rfl)]
    rw [Lib.run_noEscape]
    simp only [Result.andThen]
    rw [Oper.upon_value]
    go_wp2_with fail
    rw [Lib.run_from_unsafe w ⟨b, 0, none⟩ Tryd.underlying66 Tryd.underlying37 hj hsh lies_builder]
    simp only [Result.andThen]
    rw [Oper.upon_value]
    go_wp2_with fail
    go_end0
    refine ⟨rfl, H.out.used _, ?_⟩
    refine ⟨rfl, rfl, rfl, by simp [World.setCell], fun k hk hb _ => Below.heap_setCell _ _ _ _ hb, Or.inl ?_⟩
    obtain ⟨_, v, hb, _, _⟩ := H.out
    have h2 : (w.setCell ⟨b, 0, none⟩ (.pointer (some ⟨b, 0, none⟩))).heap[b]? = some (.cells #[.pointer (some ⟨b, 0, none⟩), v] 40 (0, 0)) := by
      simp [World.setCell, Array.getElem?_modify, hb]
    rw [bufOf_at hb, bufOf_at h2]
  · have c0 := h.cell0
    have H := Lib.hid h
    clear h
    go_enter Tryd.func35, Tryd.ntmps35
    go_wp2_with fail
    rw [Lib.run_neq_ptr_same w _ Tryd.underlying37 hj]
    go_wp2_with fail
    go_end0
    exact ⟨rfl, H.out, KeepB.refl _ _⟩

/-- Where a string's bytes go that are appended: to the row's own block or to a new one. -/
theorem append_str_at {w w1 : World} {t u ty e : TypeId} {i : TypeInfo} (ht : Tryd.prog.underlying t = some (.slice e)) (hu : Tryd.prog.underlying u = some .string) (hi : Tryd.prog.info? e = some i) (hz : i.zero = some (.int .u8 0))
    (hsize : i.size = 1) (hby : i.bytes = 1) {base n : Nat} {v v1 : Value} {xs : List Value} (hown : w.ownsRow base e 1 v n xs) (s : ByteArray) (hbytes : n + s.size ≤ 140737488355328)
    (hr : (Builtin.append_ #[t, u] ty #[v, .string s]).run Tryd.prog w = .ok v1 w1) : v1.ownBlock = v.ownBlock ∨ v1.ownBlock = some w.heap.size := by
  rcases hown.2 with ⟨rfl, rfl⟩ | ⟨g, cap, cur, rfl, hbg, hg, hnc, hcm, hcs, htake⟩
  · by_cases hm : s.size = 0
    · left
      have hf := Lib.run_firstCells_string (P := Tryd.prog) w 1 s
      rw [hm] at hf
      have h2 : (Builtin.append_ #[t, u] ty #[.slice none 0 0, .string s]).run Tryd.prog w = .ok (.slice none 0 0) w := by
        simp [Builtin.append_, run_underlying ht, run_underlying hu, sizeOf, typeInfo, hi, hsize, Builtin.lenOf, hm, hf]
      rw [h2] at hr
      injection hr with h3 _
      rw [← h3]
    · right
      have h2 := run_append_nil_string (P := Tryd.prog) w t u ty e i (.int .u8 0) ht hu hi hz s (by omega) (by omega) (by rw [hby]; omega)
      rw [h2] at hr
      injection hr with h3 _
      rw [← h3]; rfl
  · by_cases hroom : n + s.size ≤ cap
    · left
      have hcs' : cur.size = cap := by simpa using hcs
      have h2 := Lib.run_append_room_string (P := Tryd.prog) w t u ty e i ht hu hi hsize g n cap cur hg s hroom (by omega)
      rw [h2] at hr
      injection hr with h3 _
      rw [← h3]; rfl
    · right
      have hxl : xs.length = n := by simpa using hown.1
      have holds : ∀ j u, xs[j]? = some u → w.cell? ((⟨g, 0, none⟩ : Addr).add j) = some u := hown.cells (g := g) rfl
      have h2 := Lib.run_append_grow_string (P := Tryd.prog) w t u ty e i (.int .u8 0) ht hu hi hz ⟨g, 0, none⟩ n cap xs (by rw [hsize]; simpa using hxl) holds s (by omega) (by omega) (by rw [hby]; exact growslice_fits (by omega) (by omega))
      rw [h2] at hr
      injection hr with h3 _
      rw [← h3]; rfl
section
variable {ops : Array Oper} {rest : List Oper} {o : Oper} {a : Act} {w : World} {Q : Exit → Act → World → Prop}
theorem wpList_append_text (hgd : o.guard = none) (sl y : Operand) (t u : TypeId) (ho : o.op = .call { callee := .builtin .append, args := #[sl, y], argTypes := #[t, u] })
    (base : Nat) (e : TypeId) (i : TypeInfo) (ht : Tryd.prog.underlying t = some (.slice e)) (hu : Tryd.prog.underlying u = some .string) (hi : Tryd.prog.info? e = some i) (hz : i.zero = some (.int .u8 0)) (hsize : i.size = 1) (hby : i.bytes = 1)
    (v : Value) (n : Nat) (xs : List Value) (hs : a.eval sl = v) (hown : w.ownsRow base e 1 v n xs) (s : ByteArray) (hx : a.eval y = .string s) (hbytes : n + s.size ≤ 140737488355328) (hbase : base ≤ w.heap.size)
    (h : ∀ v' w', w'.ownsRow base e 1 v' (n + s.size) (xs ++ Lib.strCells s) → w.grownBy w' v.ownBlock → (v'.ownBlock = v.ownBlock ∨ v'.ownBlock = some w.heap.size) → wpList Tryd.prog ops Q rest (a.put o.dst v') w') : wpList Tryd.prog ops Q (o :: rest) a w :=
  wpList_plain hgd fun K hK => by
    obtain ⟨v', w', hr, h2, h3, _⟩ := Lib.run_append_own_string (P := Tryd.prog) w base t u o.type e i ht hu hi hz hsize hby v n xs hown s (by unfold maxLen; omega) hbytes hbase
    have h4 := append_str_at ht hu hi hz hsize hby hown s hbytes hr
    have hr2 : (execOp a.eval o).run Tryd.prog w = .ok (.value v') w' := by
      unfold execOp
      simp only [ho, resolve, invoke, builtin, Sem.run_bind, Sem.run_pure, Result.andThen_ok, List.map_toArray, List.map_cons, List.map_nil, hs, hx, hr]
    unfold Oper.wp
    rw [hr2]
    exact hK _ _ (h v' w' h2 h3 h4)
end
theorem info_byte : (Tryd.prog.info? 5).map (fun i => (i.zero, i.size, i.bytes)) = some (some (.int .u8 0), 1, 1) := by kernel_rfl
theorem grownBy_set1 {w1 w2 : World} {b : Nat} {v v' : Value} {row : Option Nat} (hb : w1.heap[b]? = some (.cells #[.pointer (some ⟨b, 0, none⟩), v] 40 (0, 0))) (hg : w1.grownBy w2 row) (hrow : row = v.ownBlock) (hne : v.ownBlock ≠ some b) (hv : v'.ownBlock = v.ownBlock ∨ ∀ g, v'.ownBlock = some g → w1.heap.size ≤ g) (hlt : b < w1.heap.size) :
    w2.heap[b]? = some (.cells #[.pointer (some ⟨b, 0, none⟩), v] 40 (0, 0)) ∧ KeepB b w1 (w2.setCell ⟨b, 1, none⟩ v') := by
  subst hrow
  have hb2 : w2.heap[b]? = some (.cells #[.pointer (some ⟨b, 0, none⟩), v] 40 (0, 0)) := (hg.block b hlt (fun e => hne e.symm)).trans hb
  have hb3 : (w2.setCell ⟨b, 1, none⟩ v').heap[b]? = some (.cells #[.pointer (some ⟨b, 0, none⟩), v'] 40 (0, 0)) := by
    simp [World.setCell, Array.getElem?_modify, hb2]
  refine ⟨hb2, hg.os, hg.tape, hg.output, by simp [World.setCell]; exact hg.size, fun k hk h1 h2 => ?_, ?_⟩
  · rw [Below.heap_setCell _ _ _ _ h1]
    exact hg.block k hk (by rw [bufOf_at hb] at h2; exact h2)
  · rw [bufOf_at hb3, bufOf_at hb]
    exact hv

set_option maxRecDepth 100000 in
set_option maxHeartbeats 2000000 in
theorem bWriteString (b : Nat) (x s : ByteArray) (w : World) (h : Bd w b x) (hs : x.size + s.size ≤ 1000000000) : Calls Tryd.prog 23 #[.pointer (some ⟨b, 0, none⟩), .string s] w fun e w' => e = .returned (.tuple #[.int .i64 s.size, .nilIface]) ∧ Bd w' b (x ++ s) ∧ KeepB b w w' := by
  obtain ⟨i0, hi0, hz0, hz1, hz2⟩ := info_parts info_byte
  have hlt := h.lt
  have HBd := Lib.hid h
  clear h
  go_enter Tryd.func23, Tryd.ntmps23
  go_wp2_with fail
  refine (bCheck b x _ HBd.out).mono ?_
  rintro e w1 ⟨rfl, h1, hk1⟩
  obtain ⟨_, v, hb, hown, hne⟩ := h1
  have c1 : w1.cell? ⟨b, 1, none⟩ = some v := by rw [Lib.cell_of_heap hb]; rfl
  have hlt1 : b < w1.heap.size := Nat.lt_of_lt_of_le hlt hk1.size
  have HB := Lib.hid hb
  have HOwn := Lib.hid hown
  have HNe := Lib.hid hne
  have HK := Lib.hid hk1
  have hsl : (Lib.strCells x).length = x.size := Lib.strCells_length x
  have HSl := Lib.hid hsl
  clear hb hown hne hk1 hlt hsl
  go_wp2_with (first
    | (at_builtin
       refine wpList_append_text rfl _ _ 38 9 rfl b 5 i0 Tryd.underlying38 Tryd.underlying9 hi0 hz0 hz1 hz2 v x.size (Lib.strCells x) rfl (by rw [← HSl.out]; exact HOwn.out) s rfl (by omega) (by omega) ?_
       intro v' w2 hown2 hg2 hat2
       have hq := grownBy_set1 (v' := v') HB.out hg2 rfl HNe.out (hat2.imp id (fun q g hg => by rw [q] at hg; injection hg with hg; omega)) hlt1
       have HQ := Lib.hid hq
       have d1 : w2.cell? ⟨b, 1, none⟩ = some v := by rw [Lib.cell_of_heap hq.1]; rfl
       have f1 : w2.frozen? ⟨b, 1, none⟩ = false := Lib.frozen_of_heap hq.1 1
       obtain ⟨A2, c2, rfl⟩ := own_form hown2
       have HOwn2 := Lib.hid hown2
       clear hq hown2 hg2 hat2)
    | fail)
  refine bodyPost_ret (v := .tuple #[.int .i64 s.size, .nilIface]) (by simp [results, Tryd.results23, go_sem]) rfl ⟨rfl, ?_, HK.out.trans HQ.out.2⟩
  right
  have hl : (Lib.strCells (x ++ s)).length = x.size + s.size := by rw [Lib.strCells_length, ByteArray.size_append]
  exact Lib.BuilderAt.put (Nat.le_refl _) HQ.out.1 (by rw [hl, str_app]; exact HOwn2.out) (by decide)

set_option maxRecDepth 100000 in
set_option maxHeartbeats 2000000 in
theorem bWriteByte (b : Nat) (x : ByteArray) (c : UInt8) (n : Int) (hn : n = c.toNat) (w : World) (h : Bd w b x) (hs : x.size + 1 ≤ 1000000000) : Calls Tryd.prog 29 #[.pointer (some ⟨b, 0, none⟩), .int .u8 n] w fun e w' => e = .returned .nilIface ∧ Bd w' b (x ++ ⟨#[c]⟩) ∧ KeepB b w w' := by
  obtain ⟨i0, hi0, hz0, hz1, hz2⟩ := info_parts info_byte
  have hlt := h.lt
  have HBd := Lib.hid h
  have HN := Lib.hid hn
  clear h hn
  go_enter Tryd.func29, Tryd.ntmps29
  go_wp2_with fail
  refine (bCheck b x _ HBd.out).mono ?_
  rintro e w1 ⟨rfl, h1, hk1⟩
  obtain ⟨_, v, hb, hown, hne⟩ := h1
  have c1 : w1.cell? ⟨b, 1, none⟩ = some v := by rw [Lib.cell_of_heap hb]; rfl
  have hlt1 : b < w1.heap.size := Nat.lt_of_lt_of_le hlt hk1.size
  have HB := Lib.hid hb
  have HOwn := Lib.hid hown
  have HNe := Lib.hid hne
  have HK := Lib.hid hk1
  have HSl := Lib.hid (Lib.strCells_length x)
  obtain ⟨w3, hw3⟩ : ∃ w3, w3 = w1.alloc (.cells #[.int .u8 n] 5) := ⟨_, rfl⟩
  have hB3 : Below w1.heap.size w1 w3 := by rw [hw3]; exact (Below.refl _ _).alloc (Nat.le_refl _) _
  have HB3 : Hid (w3.heap[b]? = some (.cells #[.pointer (some ⟨b, 0, none⟩), v] 40 (0, 0))) := Lib.hid ((hB3.block b hlt1).trans hb)
  have HOwn3 : Hid (w3.ownsRow b 5 1 v x.size (Lib.strCells x)) := Lib.hid (by rw [hw3, ← HSl.out]; exact hown.alloc _)
  have HA3 : Hid (At w3 w1.heap.size 5 #[.int .u8 n]) := Lib.hid (by rw [hw3]; exact At.new _ _ _)
  have HS3 : Hid (w3.heap.size = w1.heap.size + 1) := Lib.hid (by rw [hw3]; simp)
  have HK3 : Hid (KeepB b w1 w3) := Lib.hid (KeepB.of hB3 hlt1)
  have HLt3 : Hid (b < w3.heap.size) := Lib.hid (by have := hB3.size; omega)
  have HW3 := Lib.hid hw3
  clear hb hown hne hk1 hlt hB3 hw3
  go_wp2_with (first
    | (at_builtin
       rw [← HW3.out]
       refine wpList_append_lies _ rfl _ _ _ rfl b 5 i0 _ 1 1 Tryd.underlying38 hi0 hz0 hz1 hz2 rfl (by omega) v x.size (Lib.strCells x) rfl HOwn3.out ⟨w1.heap.size, 0, none⟩ 1 1 [.int .u8 n] rfl rfl ?c1 ?c2 ?c6 ?c3 ?c4 ?c5 w3.heap.size rfl ?_
       case c1 => exact fun i u hu => by rw [Addr.add_mid, Nat.zero_add]; exact (HA3.out.cell i).trans (by simpa using hu)
       case c2 => exact fun u hu => by simp at hu; subst hu; rfl
       case c6 => omega
       case c3 => unfold maxLen; omega
       case c4 => omega
       case c5 => rw [HS3.out]; omega
       intro g cap w2 hown2 hg2 hat2 hlt2
       have hat3 : (Value.slice (some ⟨g, 0, none⟩) (x.size + 1) cap).ownBlock = v.ownBlock ∨ ∀ g', (Value.slice (some ⟨g, 0, none⟩) (x.size + 1) cap).ownBlock = some g' → w3.heap.size ≤ g' := at_or hat2
       have hq := grownBy_set1 (v' := .slice (some ⟨g, 0, none⟩) (x.size + 1) cap) HB3.out hg2 rfl HNe.out hat3 HLt3.out
       have HQ := Lib.hid hq
       have d1 : w2.cell? ⟨b, 1, none⟩ = some v := by rw [Lib.cell_of_heap hq.1]; rfl
       have f1 : w2.frozen? ⟨b, 1, none⟩ = false := Lib.frozen_of_heap hq.1 1
       have HOwn2 := Lib.hid hown2
       clear hq hown2 hg2 hat2)
    | fail)
  go_ret
  refine ⟨rfl, ?_, (HK.out.trans HK3.out).trans HQ.out.2⟩
  right
  have hl : (Lib.strCells (x ++ ⟨#[c]⟩)).length = x.size + 1 := by rw [Lib.strCells_length, ByteArray.size_append]; rfl
  have hc : Lib.strCells ⟨#[c]⟩ = [.int .u8 n] := by rw [HN.out]; rfl
  exact Lib.BuilderAt.put (Nat.le_refl _) HQ.out.1 (by rw [hl, str_app, hc]; exact HOwn2.out) (by decide)

end Go.Proofs.YtibmcdgnponpmaaDoor
