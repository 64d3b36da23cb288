/- Places of lists as keys of a map: whatever '==' answers of two of them, something is answered, and nothing turns. -/
import Derived.Test.YtjkcbojlopdonaaProg
import Derived.Test.YtjkcbojlopdonaaTreeKit
import Derived.WalkKit
import Derived.Deep.WholeRow
import Derived.MapKept
namespace Go.Proofs.Ytjkcbojlopdonaa
open Go.RowKit
set_option linter.unusedSimpArgs false
set_option linter.unusedVariables false

/-- The first place of a list that may be held against another's. -/
def Solid (w : World) (a : Addr) : Prop := (w.shape? a.block).isSome = true ∧ w.frozen? a = false
theorem sameAddr_any (w : World) (a b : Addr) (ha : Solid w a) (hb : Solid w b) : ∃ (r : Bool) (n : Nat), (sameAddr a b).run Try.prog w = .ok r (w.drewN n) := by
  obtain ⟨sa, fa⟩ := ha
  obtain ⟨sb, fb⟩ := hb
  by_cases hab : a.block = b.block
  · exact ⟨a == b, 0, by rw [show w.drewN 0 = w from rfl]; simp [sameAddr, hab]⟩
  · have hm : ∃ m : Bool, (mayBeOne a b).run Try.prog w = .ok m w := by
      obtain ⟨xa, hxa⟩ := Option.isSome_iff_exists.1 sa
      obtain ⟨xb, hxb⟩ := Option.isSome_iff_exists.1 sb
      obtain ⟨ta, na⟩ := xa
      obtain ⟨tb, nb⟩ := xb
      simp [mayBeOne, stringish, frozen, shape, fa, fb, hxa, hxb, Sem.run]
    obtain ⟨m, hm⟩ := hm
    have hv : ∀ c : Addr, (w.shape? c.block).isSome = true → (noView c).run Try.prog w = .ok () w := fun c hc => by
      simp [noView, viewAt, shape, hc, Sem.run]
    have hfa : (frozen a).run Try.prog w = .ok false w := by simp [frozen, fa, Sem.run]
    have hfb : (frozen b).run Try.prog w = .ok false w := by simp [frozen, fb, Sem.run]
    have e : (sameAddr a b).run Try.prog w = (do if m then return (← choose (.extern "sameAddr.stringBytes" 2)) == 1 else pure false : Sem Bool).run Try.prog w := by
      unfold sameAddr
      rw [if_neg (by simpa using hab)]
      simp only [Sem.run_bind, hfa, hfb, hv a sa, hv b sb, hm]
      cases m <;> simp [Result.andThen, hfa, hfb, hv a sa, hv b sb, hm]
    rw [e]
    cases m with
    | false => exact ⟨false, 0, rfl⟩
    | true =>
      have q := run_choose_drew Try.prog w (.extern "sameAddr.stringBytes" 2)
      rw [if_pos rfl, Sem.run_bind, q]
      split
      · exact ⟨_, 0, rfl⟩
      · exact ⟨_, 1, rfl⟩
def placeV (a : Addr) (n : Int) : Value := .agg #[.pointer (some a), .int .i64 n]
theorem fields_pl : (Try.prog.fieldsOf 55).toList.map (fun f => (f.name, f.type, f.offset)) = [("first", 53, 0), ("n", 3, 1)] := by kernel_rfl
theorem fields_pl' : ∃ f0 f1, (Try.prog.fieldsOf 55).toList = [f0, f1] ∧ (f0.name = "first" ∧ f0.type = 53 ∧ f0.offset = 0) ∧ (f1.name = "n" ∧ f1.type = 3 ∧ f1.offset = 1) := by
  have h := fields_pl
  generalize (Try.prog.fieldsOf 55).toList = l at h ⊢
  have hl : l.length = 2 := by have := congrArg List.length h; simpa using this
  match l, hl with
  | [f0, f1], _ =>
    simp only [List.map_cons, List.map_nil, List.cons.injEq, Prod.mk.injEq, and_true] at h
    exact ⟨f0, f1, rfl, h.1, h.2⟩
theorem struct_pl : Try.prog.underlying 55 = some (.struct (Try.prog.fieldsOf 55)) := by kernel_rfl
theorem stood_pl : Try.prog.stoodInHeld 55 = false := by kernel_rfl
theorem pl_part0 (w : World) (a : Addr) (n : Int) : (part 53 #[.pointer (some a), .int .i64 n] 0).run Try.prog w = .ok (.pointer (some a)) w := by
  simp [part, isAgg, run_underlying Try.underlying53]
theorem pl_part1 (w : World) (a : Addr) (n : Int) : (part 3 #[.pointer (some a), .int .i64 n] 1).run Try.prog w = .ok (.int .i64 n) w := by
  simp [part, isAgg, run_underlying Try.underlying3]
theorem size_re (w : World) : (Go.sizeOf 35).run Try.prog w = .ok 9 w := by
  have h : (Try.prog.info? 35).map (·.size) = some 9 := by kernel_rfl
  cases hi : Try.prog.info? 35 with
  | none => rw [hi] at h; cases h
  | some i => rw [hi] at h; simp at h; simp [Go.sizeOf, typeInfo, hi, h]
theorem ptrEq_any (d : Nat) (w : World) (a b : Addr) (ha : Solid w a) (hb : Solid w b) : ∃ (r : Bool) (n : Nat), (Op.equalIn (d + 1) 53 (.pointer (some a)) (.pointer (some b))).run Try.prog w = .ok r (w.drewN n) := by
  obtain ⟨r, n, h⟩ := sameAddr_any w a b ha hb
  refine ⟨r, n, ?_⟩
  rw [← h]
  have hu := run_underlying (w := w) Try.underlying53
  simp only [Op.equalIn, Sem.run_bind, hu, Result.andThen_ok, size_re]
  simp
theorem placeEqD (d : Nat) (w : World) (a b : Addr) (m n : Int) (ha : Solid w a) (hb : Solid w b) : ∃ (r : Bool) (q : Nat), (Op.equalIn (d + 1 + 1) 55 (placeV a m) (placeV b n)).run Try.prog w = .ok r (w.drewN q) := by
  obtain ⟨r, q, h⟩ := ptrEq_any d w a b ha hb
  unfold placeV
  rw [run_equalIn_struct w (d + 1) _ _ _ struct_pl stood_pl]
  obtain ⟨f0, f1, hfs, ⟨n0, t0, o0⟩, ⟨n1, t1, o1⟩⟩ := fields_pl'
  rw [hfs]
  have he1 : (Op.equalIn (d + 1) 3 (.int .i64 m) (.int .i64 n)).run Try.prog (w.drewN q) = .ok (m == n) (w.drewN q) := by
    rw [run_equalIn_int (w.drewN q) d 3 .i64 .i64 m n Try.underlying3]
  have hn0 : f0.name ≠ "_" := by rw [n0]; decide
  have hn1 : f1.name ≠ "_" := by rw [n1]; decide
  unfold Op.eqFields
  rw [if_pos hn0, t0, o0]
  simp only [Sem.run_bind, pl_part0, h, Result.andThen_ok]
  cases r with
  | false => exact ⟨false, q, rfl⟩
  | true =>
    simp only [Bool.not_true, Bool.false_eq_true, if_false]
    unfold Op.eqFields
    rw [if_pos hn1, t1, o1]
    simp only [Sem.run_bind, pl_part1, he1, Result.andThen_ok]
    cases m == n with
    | false => exact ⟨false, q, rfl⟩
    | true => exact ⟨true, q, rfl⟩
theorem placeEq (w : World) (a b : Addr) (m n : Int) (ha : Solid w a) (hb : Solid w b) : ∃ (r : Bool) (q : Nat), (Op.equal 55 (placeV a m) (placeV b n)).run Try.prog w = .ok r (w.drewN q) := placeEqD 9998 w a b m n ha hb
theorem Solid.drew {w : World} {a : Addr} (h : Solid w a) (q : Nat) : Solid (w.drewN q) a := h
def unitV : Value := .agg #[]
/-- The map of places: its keys may be held against each other, and lie below it. -/
def MapAt (w : World) (g : Nat) : Prop := ∃ es clock, w.heap[g]? = some (.map es clock) ∧ ∀ e ∈ es.toList, (∃ a n, e.key = placeV a n ∧ Solid w a ∧ a.block < g) ∧ e.val = unitV
theorem find_any (a : Addr) (n : Int) : ∀ (es : List MapEntry) (i : Nat) (w : World), Solid w a → (∀ e ∈ es, (∃ a n, e.key = placeV a n ∧ Solid w a) ∧ e.val = unitV) →
    ∃ (r : Option (Nat × Value)) (q : Nat), (Instr.findAsking 55 (placeV a n) es i).run Try.prog w = .ok r (w.drewN q) ∧ ∀ x, r = some x → x.2 = unitV
  | [], i, w, _, _ => ⟨none, 0, rfl, fun x h => by cases h⟩
  | e :: es, i, w, ha, hk => by
    obtain ⟨⟨b, m, hkey, hb⟩, hval⟩ := hk e (by simp)
    obtain ⟨r, q, h⟩ := placeEq w a b n m ha hb
    cases r with
    | true => exact ⟨some (i, e.val), q, by unfold Instr.findAsking; rw [hkey]; simp only [Sem.run_bind, h, Result.andThen_ok]; rfl, fun x hx => by cases hx; exact hval⟩
    | false =>
      obtain ⟨r2, q2, h2, h3⟩ := find_any a n es (i + 1) (w.drewN q) (ha.drew q) (fun e he => by
        obtain ⟨⟨c, k, h1, h2⟩, h3⟩ := hk e (by simp [he])
        exact ⟨⟨c, k, h1, h2.drew q⟩, h3⟩)
      refine ⟨r2, q + q2, ?_, h3⟩
      unfold Instr.findAsking
      rw [hkey]
      simp only [Sem.run_bind, h, Result.andThen_ok]
      rw [if_neg (by decide), h2]
      simp [World.drewN, Nat.add_assoc]
theorem findKey_any (a : Addr) (n : Int) (es : List MapEntry) (w : World) (ha : Solid w a) (hk : ∀ e ∈ es, (∃ a n, e.key = placeV a n ∧ Solid w a) ∧ e.val = unitV) :
    ∃ (r : Option (Nat × Value)) (q : Nat), (Instr.findKey 55 (placeV a n) es).run Try.prog w = .ok r (w.drewN q) ∧ ∀ x, r = some x → x.2 = unitV := by
  cases es with
  | nil => exact ⟨none, 0, by simp only [Instr.findKey, Sem.run_bind, run_underlying struct_pl, Result.andThen_ok, Instr.findNow]; rfl, fun x h => by cases h⟩
  | cons e es =>
    obtain ⟨r, q, h1, h2⟩ := find_any a n (e :: es) 0 w ha hk
    exact ⟨r, q, by simp only [Instr.findKey, Sem.run_bind, run_underlying struct_pl, Result.andThen_ok, Instr.findNow, Instr.sameNow]; exact h1, h2⟩
theorem check_place (em : Bool) (d : Nat) (a : Addr) (n : Int) (w : World) : (Instr.checkKey em (d + 1 + 1) 55 (placeV a n)).run Try.prog w = .ok () w := by
  obtain ⟨f0, f1, hfs, ⟨n0, t0, o0⟩, ⟨n1, t1, o1⟩⟩ := fields_pl'
  have hn0 : f0.name ≠ "_" := by rw [n0]; decide
  have hn1 : f1.name ≠ "_" := by rw [n1]; decide
  have hc0 : (Instr.checkKey em (d + 1) 53 (.pointer (some a))).run Try.prog w = .ok () w := by
    unfold Instr.checkKey
    simp only [Sem.run_bind, run_underlying Try.underlying53, Result.andThen_ok]
    rfl
  have hc1 : (Instr.checkKey em (d + 1) 3 (.int .i64 n)).run Try.prog w = .ok () w := by
    unfold Instr.checkKey
    simp only [Sem.run_bind, run_underlying Try.underlying3, Result.andThen_ok]
    rfl
  unfold Instr.checkKey placeV
  simp only [Sem.run_bind, run_underlying struct_pl, Result.andThen_ok]
  rw [← Array.forIn_toList, hfs]
  simp only [List.forIn_cons, if_pos hn0, if_pos hn1, t0, t1, o0, o1, Sem.run_bind, pl_part0, pl_part1, hc0, hc1, Result.andThen_ok, Sem.run_pure, List.forIn_nil]

theorem getMap {w : World} {r : Nat} {es : Array MapEntry} {clock : Nat} (hb : w.heap[r]? = some (.map es clock)) : (getObj r).run Try.prog w = .ok (.map es clock) w := by
  simp [getObj, Sem.run, hb]
theorem setMap {w : World} {r : Nat} {es : Array MapEntry} {clock : Nat} (o : Obj) (hb : w.heap[r]? = some (.map es clock)) : (setObj r o).run Try.prog w = .ok () { w with heap := w.heap.setIfInBounds r o } := by
  simp [setObj, Sem.run, hb]
theorem Solid.block {w w' : World} {a : Addr} (h : Solid w a) (e : w'.heap[a.block]? = w.heap[a.block]?) : Solid w' a := by
  unfold Solid World.shape? World.frozen? at *
  rw [e]; exact h
set_option maxRecDepth 20000 in
theorem lookup_any (w : World) (g : Nat) (a : Addr) (n : Int) (h : MapAt w g) (ha : Solid w a) :
    ∃ (b : Bool) (q : Nat), (Instr.lookup 63 (.map (some g)) (placeV a n) true).run Try.prog w = .ok (.tuple #[unitV, .bool b]) (w.drewN q) := by
  obtain ⟨es, clock, hb, hk⟩ := h
  obtain ⟨r, q, h1, h2⟩ := findKey_any a n es.toList w ha (fun e he => ⟨by obtain ⟨⟨b, m, x, y, _⟩, _⟩ := hk e he; exact ⟨b, m, x, y⟩, (hk e he).2⟩)
  have hz : (zeroValue 58).run Try.prog (w.drewN q) = .ok unitV (w.drewN q) := (zero_of_info (P := Try.prog) (n := 0) (by kernel_rfl)).1 _
  have hc : (Instr.checkKey es.isEmpty 10000 55 (placeV a n)).run Try.prog w = .ok () w := check_place es.isEmpty 9998 a n w
  unfold Instr.lookup
  simp only [Sem.run_bind, run_underlying Try.underlying63, Result.andThen_ok, getMap hb, Sem.run_pure, hc, h1]
  cases r with
  | none => exact ⟨false, q, by simp only [Sem.run_bind, hz, Result.andThen_ok, Sem.run_pure]; rfl⟩
  | some x => exact ⟨true, q, by obtain ⟨i, v⟩ := x; have := h2 _ rfl; subst this; simp only [Sem.run_pure, Result.andThen_ok]; rfl⟩
/-- Only the map turns. -/
theorem update_any (w : World) (g : Nat) (a : Addr) (n : Int) (h : MapAt w g) (ha : Solid w a) (hag : a.block < g) :
    ∃ w', (Instr.mapUpdate 63 (.map (some g)) (placeV a n) unitV).run Try.prog w = .ok () w' ∧ MapAt w' g ∧ w.grownBy w' (some g) := by
  obtain ⟨es, clock, hb, hk⟩ := h
  obtain ⟨r, q, h1, h2⟩ := findKey_any a n es.toList w ha (fun e he => ⟨by obtain ⟨⟨b, m, x, y, _⟩, _⟩ := hk e he; exact ⟨b, m, x, y⟩, (hk e he).2⟩)
  have hc : (Instr.checkKey false 10000 55 (placeV a n)).run Try.prog w = .ok () w := check_place false 9998 a n w
  have hold : ∀ (i : Nat), ∃ b m, ((es[i]?).map (·.key)).getD (placeV a n) = placeV b m ∧ Solid w b ∧ b.block < g := fun i => by
    cases he : es[i]? with
    | none => exact ⟨a, n, rfl, ha, hag⟩
    | some e =>
      obtain ⟨⟨b, m, h1, h2⟩, _⟩ := hk e (by rw [Array.getElem?_eq_some_iff] at he; obtain ⟨hi, rfl⟩ := he; simp)
      exact ⟨b, m, h1, h2⟩
  have hstay : ∀ (o : Value) (q : Nat), ∃ (k : Value) (q' : Nat), (Instr.keyThatStays o (placeV a n)).run Try.prog (w.drewN q) = .ok k (w.drewN q') ∧ (k = o ∨ k = placeV a n) := fun o q => by
    unfold Instr.keyThatStays
    split
    · exact ⟨_, q, rfl, Or.inr rfl⟩
    · have hq := run_choose_drew Try.prog (w.drewN q) (.extern "map.whichKeyStays" 2)
      rw [Sem.run_bind, hq]
      split
      · rw [Result.andThen_ok]
        exact ⟨_, q, rfl, by split; exact Or.inr rfl; exact Or.inl rfl⟩
      · rw [Result.andThen_ok]
        exact ⟨_, q + 1, rfl, by split; exact Or.inr rfl; exact Or.inl rfl⟩
  have fin : ∀ (q : Nat) (o : Obj), (∃ es' clock', o = .map es' clock' ∧ ∀ e ∈ es'.toList, (∃ a n, e.key = placeV a n ∧ Solid w a ∧ a.block < g) ∧ e.val = unitV) →
      MapAt { w.drewN q with heap := (w.drewN q).heap.setIfInBounds g o } g ∧ w.grownBy { w.drewN q with heap := (w.drewN q).heap.setIfInBounds g o } (some g) := by
    rintro q o ⟨es', clock', rfl, hk'⟩
    have hg : g < w.heap.size := by
      rcases Nat.lt_or_ge g w.heap.size with x | x
      · exact x
      · rw [Array.getElem?_eq_none x] at hb; cases hb
    refine ⟨⟨es', clock', by show (w.heap.setIfInBounds g _)[g]? = _; rw [Array.getElem?_setIfInBounds_self_of_lt hg], fun e he => ?_⟩, ⟨rfl, rfl, rfl, by show w.heap.size ≤ (w.heap.setIfInBounds g _).size; simp, fun k hk2 hne => by show (w.heap.setIfInBounds g _)[k]? = _; rw [Array.getElem?_setIfInBounds_ne (fun e => hne (by rw [e]))]⟩⟩
    obtain ⟨⟨b, m, h1, h2, h4⟩, h3⟩ := hk' e he
    refine ⟨⟨b, m, h1, h2.block ?_, h4⟩, h3⟩
    show (w.heap.setIfInBounds g _)[b.block]? = _
    rw [Array.getElem?_setIfInBounds_ne (by omega)]
  unfold Instr.mapUpdate
  simp only [Sem.run_bind, run_underlying Try.underlying63, Result.andThen_ok, getMap hb, Sem.run_pure, hc, h1]
  have hb' : (w.drewN q).heap[g]? = some (.map es clock) := hb
  cases r with
  | none =>
    simp only [setMap _ hb']
    refine ⟨_, rfl, fin q _ ⟨_, _, rfl, fun e he => ?_⟩⟩
    rw [Array.toList_push, List.mem_append, List.mem_singleton] at he
    rcases he with he | rfl
    · exact hk e he
    · exact ⟨⟨a, n, rfl, ha, hag⟩, rfl⟩
  | some x =>
    obtain ⟨i, v⟩ := x
    obtain ⟨b, m, hb1, hb2⟩ := hold i
    obtain ⟨k, q', hs1, hs2⟩ := hstay (((es[i]?).map (·.key)).getD (placeV a n)) q
    have hb'' : (w.drewN q').heap[g]? = some (.map es clock) := hb
    simp only [Sem.run_bind, hs1, Result.andThen_ok, setMap _ hb'']
    refine ⟨_, rfl, fin q' _ ⟨_, _, rfl, fun e he => ?_⟩⟩
    rw [Array.mem_toList_iff, Array.mem_iff_getElem] at he
    obtain ⟨j, hj, rfl⟩ := he
    rw [Array.getElem_modify]
    have hj' : j < es.size := by simpa using hj
    have hek := hk es[j] (by simp)
    split
    · refine ⟨?_, rfl⟩
      rcases hs2 with hs2 | hs2
      · exact ⟨b, m, hs2.trans hb1, hb2⟩
      · exact ⟨a, n, hs2, ha, hag⟩
    · exact hek
theorem MapAt.keep {w w' : World} {g : Nat} (h : MapAt w g) (hb : Below (g + 1) w w') : MapAt w' g := by
  obtain ⟨es, clock, h1, h2⟩ := h
  refine ⟨es, clock, by rw [hb.block g (Nat.lt_succ_self _)]; exact h1, fun e he => ?_⟩
  obtain ⟨⟨a, n, h3, h4, h6⟩, h5⟩ := h2 e he
  exact ⟨⟨a, n, h3, h4.block (hb.block _ (by omega)), h6⟩, h5⟩
theorem MapAt.lt {w : World} {g : Nat} (h : MapAt w g) : g < w.heap.size := by
  obtain ⟨es, clock, h1, _⟩ := h
  rcases Nat.lt_or_ge g w.heap.size with q | q
  · exact q
  · rw [Array.getElem?_eq_none q] at h1; cases h1
theorem MapAt.next {w w' : World} {g : Nat} (h : MapAt w g) (hb : Below w.heap.size w w') : MapAt w' g := h.keep (hb.mono h.lt)
end Go.Proofs.Ytjkcbojlopdonaa
