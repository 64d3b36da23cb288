/- package formula: the sort of parts. -/
import Derived.Test.YtehokjaojanieaaFoG
namespace Go.Proofs.Ytehokjaojanieaa
open Go.RowKit
set_option linter.unusedVariables false
set_option linter.unusedSimpArgs false

set_option maxRecDepth 100000 in
set_option maxHeartbeats 4000000 in
/-- The order's closure: two blocks of its own, and nothing else. -/
theorem fLeast1 (x y : Pt) (R R' : Nat → Prop) (w : World) (hx : PtOk w R x) (hy : PtOk w R' y) :
    Calls Try.prog 46 #[.agg #[x.v, .int .u64 x.m], .agg #[y.v, .int .u64 y.m]] w fun e w' => e = .returned (.int .i64 (ordS x.l y.l)) ∧ w' = (w.alloc (.cells #[x.v, .int .u64 x.m] 50)).alloc (.cells #[y.v, .int .u64 y.m] 50) := by
  have HP := Lib.hid hx
  have HQ := Lib.hid hy
  obtain ⟨Ap, cp, hv, _⟩ := hx.1
  obtain ⟨Aq, cq, hv', _⟩ := hy.1
  obtain ⟨pv, hpv⟩ : ∃ pv, x.v = pv := ⟨_, rfl⟩
  obtain ⟨qv, hqv⟩ : ∃ qv, y.v = qv := ⟨_, rfl⟩
  rw [hpv] at hv ⊢
  rw [hqv] at hv' ⊢
  subst hv hv'
  have HPv := Lib.hid hpv
  have HQv := Lib.hid hqv
  clear hx hy hpv hqv
  go_enter Try.func46, Try.ntmps46
  have hB0 : Below w.heap.size w ((w.alloc (.cells #[.slice Ap x.l.length cp, .int .u64 x.m] 50)).alloc (.cells #[.slice Aq y.l.length cq, .int .u64 y.m] 50)) := ((Below.refl _ _).alloc (Nat.le_refl _) _).alloc (by simp) _
  go_wp2_with fail
  have i1 : IntsAt ((w.alloc (.cells #[.slice Ap x.l.length cp, .int .u64 x.m] 50)).alloc (.cells #[.slice Aq y.l.length cq, .int .u64 y.m] 50)) (.slice Ap x.l.length cp) x.l := by have := HP.out.ints.next hB0; rwa [HPv.out] at this
  have i2 : IntsAt ((w.alloc (.cells #[.slice Ap x.l.length cp, .int .u64 x.m] 50)).alloc (.cells #[.slice Aq y.l.length cq, .int .u64 y.m] 50)) (.slice Aq y.l.length cq) y.l := by have := HQ.out.ints.next hB0; rwa [HQv.out] at this
  refine (fOrd x.l y.l Ap Aq _ cp _ cq _ i1 i2).mono ?_
  rintro e w3 ⟨rfl, rfl⟩
  go_wp2_with fail
  go_ret
  exact ⟨rfl, rfl⟩

/-- The parts that are as they should be, in a world. -/
def Ok (w : World) (g : Nat) := {x : Pt // PtOk w (fun b => b = g) x}
instance (w : World) (g : Nat) : Inhabited (Ok w g) := ⟨⟨Pt.zero, PtOk.zero _ _⟩⟩
def encS (w : World) (g : Nat) (x : Ok w g) : List Value := encP x.val
theorem flatK_at {w : World} {g : Nat} (d : Array (Ok w g)) (j : Nat) (hj : j < d.size) : (Sort.flatK (encS w g) 2 d)[j * 2]! = (d[j]!).val.v ∧ (Sort.flatK (encS w g) 2 d)[j * 2 + 1]! = .int .u64 (d[j]!).val.m := by
  constructor
  · rw [Sort.get_flatK _ _ _ _ (by omega), show j * 2 / 2 = j by omega, show j * 2 % 2 = 0 by omega]; rfl
  · rw [Sort.get_flatK _ _ _ _ (by omega), show (j * 2 + 1) / 2 = j by omega, show (j * 2 + 1) % 2 = 1 by omega]; rfl
theorem rowF_holds {w : World} {g cap : Nat} {d : Array (Ok w g)} (h : RowF w g cap (fun j => d[j]?.map (·.val))) : Sort.HoldsK (encS w g) 2 w g 0 d := by
  intro t ht
  rw [Sort.size_flatK] at ht
  have hj : t / 2 < d.size := by omega
  obtain ⟨a, b⟩ := h.cell (j := t / 2) (x := d[t / 2].val) (by rw [Array.getElem?_eq_getElem hj]; rfl)
  obtain ⟨a', b'⟩ := flatK_at d (t / 2) hj
  rw [getElem!_pos d (t / 2) hj] at a' b'
  obtain ⟨k, hk⟩ : ∃ k, t / 2 = k := ⟨_, rfl⟩
  refine ⟨?_, h.free _⟩
  rw [Nat.zero_add]
  rcases Nat.mod_two_eq_zero_or_one t with e | e
  · obtain rfl : t = k * 2 := by omega
    simp only [hk] at a a'
    rw [a, a']; rfl
  · obtain rfl : t = k * 2 + 1 := by omega
    simp only [hk] at b b'
    rw [b, b']; rfl
theorem sorted_heap {w : World} {g n : Nat} {os : Array Obj} {cs : Array Value} {t : TypeId} {w0 : World} {g0 : Nat} (d : Array (Ok w0 g0)) (h : At w g t cs) :
    At (sortWorldK (encS w0 g0) 2 w g 0 n d os) g t (Sort.putCells id 0 (Sort.flatK (encS w0 g0) 2 d) cs) := by
  have hg := h.lt
  unfold At sortWorldK Sort.putRowK at *
  rw [Sort.heap_grow_old _ _ (by simpa [Sort.putRow, Sort.mapBlock, Sort.ahead] using hg)]
  simp [Sort.putRow, Sort.mapBlock, Sort.ahead, Array.getElem?_modify, h, Sort.onCells]
theorem sorted_grown {w : World} {g n : Nat} {os : Array Obj} {w0 : World} {g0 : Nat} (d : Array (Ok w0 g0)) : w.grownBy (sortWorldK (encS w0 g0) 2 w g 0 n d os) (some g) := by
  unfold sortWorldK Sort.putRowK
  refine ⟨rfl, rfl, rfl, by simp [Sort.grow, Sort.putRow, Sort.mapBlock, Sort.ahead], fun k hk hne => ?_⟩
  rw [Sort.heap_grow_old _ _ (by simpa [Sort.putRow, Sort.mapBlock, Sort.ahead] using hk)]
  have : g ≠ k := fun e => hne (by rw [e])
  simp [Sort.putRow, Sort.mapBlock, Sort.ahead, Array.getElem?_modify, this]
theorem sorted_row {w : World} {g cap n : Nat} {os : Array Obj} {w0 : World} {g0 : Nat} {f : Nat → Option Pt} (d : Array (Ok w0 g0)) (h : RowF w g cap f) (hc : d.size ≤ cap) :
    RowF (sortWorldK (encS w0 g0) 2 w g 0 n d os) g cap (fun j => d[j]?.map (·.val)) := by
  obtain ⟨cs, hA, hs, _⟩ := h
  refine ⟨_, sorted_heap d hA, by simp [Sort.putCells, hs], fun j x hx => ?_⟩
  dsimp only at hx
  obtain ⟨y, hy, rfl⟩ := Option.map_eq_some_iff.1 hx
  obtain ⟨hj, rfl⟩ := Array.getElem?_eq_some_iff.1 hy
  obtain ⟨a, b⟩ := flatK_at d j hj
  rw [getElem!_pos d j hj] at a b
  refine ⟨by omega, ?_, ?_⟩
  · unfold Sort.putCells
    rw [Array.getElem?_mapIdx, Array.getElem?_eq_getElem (by omega), Option.map_some, if_pos ⟨Nat.zero_le _, by rw [Sort.size_flatK]; omega⟩, Nat.sub_zero, a]; rfl
  · unfold Sort.putCells
    rw [Array.getElem?_mapIdx, Array.getElem?_eq_getElem (by omega), Option.map_some, if_pos ⟨Nat.zero_le _, by rw [Sort.size_flatK]; omega⟩, Nat.sub_zero, b]; rfl
theorem less_false {a b c : List Int} (h : lessS a b = false) (h' : lessS b c = false) : lessS a c = false := by
  rw [← Bool.not_eq_true] at *
  intro e
  rcases less_total b a with h1 | h1 | rfl
  · exact h' (less_trans h1 e)
  · exact h h1
  · exact h' e
theorem swo (w : World) (g : Nat) : Sort.SWO (Proofs.ltOf fun x y : Ok w g => ordS x.val.l y.val.l) where
  irrefl x := by show decide _ = false; rw [decide_eq_false_iff_not, ord_lt, less_irr]; simp
  trans x y z h1 h2 := by
    have h1 : decide _ = true := h1
    have h2 : decide _ = true := h2
    rw [decide_eq_true_eq, ord_lt] at h1 h2
    show decide _ = true
    rw [decide_eq_true_eq, ord_lt]; exact less_trans h1 h2
  ntrans x y z h1 h2 := by
    have h1 : decide _ = false := h1
    have h2 : decide _ = false := h2
    rw [decide_eq_false_iff_not, ord_lt, Bool.not_eq_true] at h1 h2
    show decide _ = false
    rw [decide_eq_false_iff_not, ord_lt, Bool.not_eq_true]; exact less_false h1 h2
set_option maxRecDepth 100000 in
theorem fSortParts (xs : List Pt) (w : World) (g cap c : Nat) (hr : RowF w g cap (fun j => xs[j]?)) (hx : ∀ x ∈ xs, PtOk w (fun b => b = g) x) (hn : xs.length ≤ cap) (hl : xs.length ≤ 4000000) :
    Calls Try.prog 45 #[.slice (some ⟨g, 0, none⟩) xs.length c, .func (.func 46) #[] #[]] w fun e w' =>
      e = .returned (.tuple #[]) ∧ ∃ d : Array (Ok w g), (d.toList.map (·.val)).Perm xs ∧ (∀ i j, i < j → j < d.size → lessS (d[j]!).val.l (d[i]!).val.l = false) ∧ RowF w' g cap (fun j => d[j]?.map (·.val)) ∧ ∃ n os, w' = sortWorldK (encS w g) 2 w g 0 n d os := by
  have eg : ∀ args w, (callFunc 46 args).run Try.prog w = .ok (.enter 46 args) w := enters_of Try.func46 (by kernel_rfl) rfl
  obtain ⟨d, hd⟩ : ∃ d : Array (Ok w g), d.toList.map (·.val) = xs := ⟨(xs.attachWith _ hx).toArray, by show List.map Subtype.val _ = xs; simp⟩
  have hsz : d.size = xs.length := by rw [← hd]; simp
  have hrd : RowF w g cap (fun j => d[j]?.map (·.val)) := hr.weaken (fun j x e => by rw [← hd, List.getElem?_map, Array.getElem?_toList]; exact e)
  have hH := rowF_holds hrd
  have hcmp : Proofs.CmpLays Try.prog 46 #[] (encS w g) 2 (fun x y : Ok w g => ordS x.val.l y.val.l) g 0 d.size w := by
    intro m os dk hdk x y
    have hg := sorted_grown (w := w) (g := g) (n := m) (os := os) dk
    have hc := fLeast1 x.val y.val (fun b => b = g) (fun b => b = g) (sortWorldK (encS w g) 2 w g 0 m dk os) (x.property.grown hg (fun k e => by injection e with e; exact e.symm)) (y.property.grown hg (fun k e => by injection e with e; exact e.symm))
    refine hc.mono ?_
    rintro e w' ⟨rfl, rfl⟩
    refine ⟨rfl, 0, #[.cells #[x.val.v, .int .u64 x.val.m] 50, .cells #[y.val.v, .int .u64 y.val.m] 50], ?_⟩
    rw [Sort.alloc_eq_grow, Sort.alloc_eq_grow, Sort.grow_grow]; rfl
  have hS := Proofs.AnyQ.slices_SortFunc lib_laysSortParts 2 Try.isAgg50 Try.sizeOf50 (encS w g) (fun _ => rfl) (fun x v hv => by
    have hv : v ∈ encP x.val := hv
    simp only [encP, List.mem_cons, List.not_mem_nil, or_false] at hv
    rcases hv with rfl | rfl
    · exact x.property.one
    · rfl) (fun x y : Ok w g => ordS x.val.l y.val.l) (swo w g) 46 #[] g 0 c d w eg hcmp hH hr.lt (by omega)
  rw [hsz] at hS
  refine hS.mono ?_
  rintro e w' ⟨rfl, d', n, os, hp, hs, rfl⟩
  obtain ⟨p1, _, p3⟩ := hp
  have hpd : d'.toList.Perm d.toList := by
    have e1 : d'.extract 0 xs.length = d' := by rw [← hsz, ← p1]; simp
    have e2 : d.extract 0 xs.length = d := by rw [← hsz]; simp
    rw [e1, e2] at p3
    exact p3
  refine ⟨rfl, d', ?_, fun i j hij hj => ?_, sorted_row d' hr (by omega), n, os, rfl⟩
  · rw [← hd]; exact hpd.map _
  · have h := hs i j (Nat.zero_le _) hij (by omega)
    have h : decide _ = false := h
    rw [decide_eq_false_iff_not, ord_lt, Bool.not_eq_true] at h
    exact h

end Go.Proofs.Ytehokjaojanieaa
