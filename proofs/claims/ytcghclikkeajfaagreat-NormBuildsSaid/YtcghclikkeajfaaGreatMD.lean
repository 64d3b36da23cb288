/- Joined: RefHas, SetEq, Own. -/
import Derived.Test.YtcghclikkeajfaaGreatProg
import Derived.Test.YtcghclikkeajfaaGreatMa
import Derived.Laws.OwnMore
import Derived.Deep.AppendLies
/- What the reference's Has answers, of any set and byte. -/
namespace Go.Proofs.YtcghclikkeajfaaGreat
open Go.RowKit

theorem ret_bool {a b : Bool} (h : a = b) : Ending.returned (.bool a) = .returned (.bool b) := by rw [h]
theorem St.has_of (s : St) (b q r : Nat) (hb : b = 64 * q + r) (hr : r < 64) : s.has b = (s.word q).testBit r := by
  unfold St.has; rw [show b / 64 = q from by omega, show b % 64 = r from by omega]

set_option maxHeartbeats 400000 in
theorem refHas (s : St) (hs : s.Ok) (b : Nat) (hb : b < 256) (w : World) :
    Calls Tryz.prog 30 #[.agg #[.int .u64 s.w0, .int .u64 s.w1, .int .u64 s.w2, .int .u64 s.w3], .int .i64 b] w fun e w' => e = .returned (.bool (s.has b)) ∧ Below w.heap.size w w' := by
  obtain ⟨r, hr⟩ : ∃ r : Nat, r = b % 64 := ⟨_, rfl⟩
  have hm : (b : Int) % 64 = r := by omega
  have hq : b / 64 = 0 ∨ b / 64 = 1 ∨ b / 64 = 2 ∨ b / 64 = 3 := by omega
  have hr' : r < 64 := by omega
  rcases hq with hq | hq | hq | hq
  · have hd : (b : Int) / 64 = 0 := by omega
    have HR := Lib.hid (s.has_of b 0 r (by omega) hr')
    clear hr hq
    go_enter Tryz.func30, Tryz.ntmps30
    go_wp2
    go_loop [5, 12] (fun x i => ∃ k : Nat, k ≤ r ∧ i = .int .i64 k ∧ x = .int .u64 (hv s.w0 k : Nat)) (fun _ i => r - (intOf i).toNat)
    case atStart => exact ⟨0, Nat.zero_le _, rfl, by rw [hv_zero]⟩
    case round =>
      obtain ⟨k, hk, rfl, rfl⟩ := hrel
      by_cases hlt : k < r
      · go_wp2
        go_round
        case rel => exact ⟨k + 1, by omega, by go_num, by rw [hv_half' _ _ hs.o0]⟩
        case measure => simp [intOf]; omega
      · have hkr : k = r := by omega
        subst hkr
        go_wp2
        go_ret
        exact ⟨ret_bool ((hv_bit' _ _).trans HR.out.symm), (Below.refl _ _).alloc (Nat.le_refl _) _⟩
  · have hd : (b : Int) / 64 = 1 := by omega
    have HR := Lib.hid (s.has_of b 1 r (by omega) hr')
    clear hr hq
    go_enter Tryz.func30, Tryz.ntmps30
    go_wp2
    go_loop [5, 12] (fun x i => ∃ k : Nat, k ≤ r ∧ i = .int .i64 k ∧ x = .int .u64 (hv s.w1 k : Nat)) (fun _ i => r - (intOf i).toNat)
    case atStart => exact ⟨0, Nat.zero_le _, rfl, by rw [hv_zero]⟩
    case round =>
      obtain ⟨k, hk, rfl, rfl⟩ := hrel
      by_cases hlt : k < r
      · go_wp2
        go_round
        case rel => exact ⟨k + 1, by omega, by go_num, by rw [hv_half' _ _ hs.o1]⟩
        case measure => simp [intOf]; omega
      · have hkr : k = r := by omega
        subst hkr
        go_wp2
        go_ret
        exact ⟨ret_bool ((hv_bit' _ _).trans HR.out.symm), (Below.refl _ _).alloc (Nat.le_refl _) _⟩
  · have hd : (b : Int) / 64 = 2 := by omega
    have HR := Lib.hid (s.has_of b 2 r (by omega) hr')
    clear hr hq
    go_enter Tryz.func30, Tryz.ntmps30
    go_wp2
    go_loop [5, 12] (fun x i => ∃ k : Nat, k ≤ r ∧ i = .int .i64 k ∧ x = .int .u64 (hv s.w2 k : Nat)) (fun _ i => r - (intOf i).toNat)
    case atStart => exact ⟨0, Nat.zero_le _, rfl, by rw [hv_zero]⟩
    case round =>
      obtain ⟨k, hk, rfl, rfl⟩ := hrel
      by_cases hlt : k < r
      · go_wp2
        go_round
        case rel => exact ⟨k + 1, by omega, by go_num, by rw [hv_half' _ _ hs.o2]⟩
        case measure => simp [intOf]; omega
      · have hkr : k = r := by omega
        subst hkr
        go_wp2
        go_ret
        exact ⟨ret_bool ((hv_bit' _ _).trans HR.out.symm), (Below.refl _ _).alloc (Nat.le_refl _) _⟩
  · have hd : (b : Int) / 64 = 3 := by omega
    have HR := Lib.hid (s.has_of b 3 r (by omega) hr')
    clear hr hq
    go_enter Tryz.func30, Tryz.ntmps30
    go_wp2
    go_loop [5, 12] (fun x i => ∃ k : Nat, k ≤ r ∧ i = .int .i64 k ∧ x = .int .u64 (hv s.w3 k : Nat)) (fun _ i => r - (intOf i).toNat)
    case atStart => exact ⟨0, Nat.zero_le _, rfl, by rw [hv_zero]⟩
    case round =>
      obtain ⟨k, hk, rfl, rfl⟩ := hrel
      by_cases hlt : k < r
      · go_wp2
        go_round
        case rel => exact ⟨k + 1, by omega, by go_num, by rw [hv_half' _ _ hs.o3]⟩
        case measure => simp [intOf]; omega
      · have hkr : k = r := by omega
        subst hkr
        go_wp2
        go_ret
        exact ⟨ret_bool ((hv_bit' _ _).trans HR.out.symm), (Below.refl _ _).alloc (Nat.le_refl _) _⟩

theorem refHasV (s : St) (hs : s.Ok) (b : Nat) (hb : b < 256) (v : Bool) (hv : s.has b = v) (w : World) :
    Calls Tryz.prog 30 #[.agg #[.int .u64 s.w0, .int .u64 s.w1, .int .u64 s.w2, .int .u64 s.w3], .int .i64 b] w fun e w' => e = .returned (.bool v) ∧ Below w.heap.size w w' := by
  rw [← hv]; exact refHas s hs b hb w

end Go.Proofs.YtcghclikkeajfaaGreat

/- '==' on two sets. -/
namespace Go.Proofs.YtcghclikkeajfaaGreat
open Go.RowKit

theorem setEq (w : World) (s t : St) (v : Bool) (h : s.eqb t = v) :
    (Op.equalIn 10000 24 (.agg #[.int .u64 s.w0, .int .u64 s.w1, .int .u64 s.w2, .int .u64 s.w3]) (.agg #[.int .u64 t.w0, .int .u64 t.w1, .int .u64 t.w2, .int .u64 t.w3])).run Tryz.prog w = .ok v w := by
  rw [← h]
  exact run_set_eq (d := 9998) Tryz.underlying24 (by kernel_rfl) Tryz.underlying22 (by kernel_rfl) w s t

end Go.Proofs.YtcghclikkeajfaaGreat

/- Slices of the call's own: a row of whole numbers that reads as a list. No program is named here. -/
namespace Go.Proofs.YtcghclikkeajfaaGreat
open Go.RowKit

theorem below_grown {w w' : World} (hb : Below w.heap.size w w') (row : Option Nat) : w.grownBy w' row := ⟨hb.os, hb.tape, hb.output, hb.size, fun i hi _ => hb.block i hi⟩
theorem SetAt.grown {w w' : World} {g : Nat} {t : TypeId} {s : St} {row : Option Nat} (h : SetAt w g t s) (hg : w.grownBy w' row) (hr : ∀ k, row = some k → g < k) : SetAt w' g t s :=
  (hg.block g h.lt (fun e => by have := hr g e.symm; omega)).trans h
/-- v is a slice of the call's own (in a block from base on) whose elements, whole numbers of kind k and type e, are l. -/
def IntRow (w : World) (base : Nat) (e : TypeId) (k : IntKind) (v : Value) (l : List Nat) : Prop := w.ownsRow base e 1 v l.length (l.map (fun b => Value.int k (b : Nat)))
section
variable {w w' w0 : World} {base : Nat} {e : TypeId} {k : IntKind} {v : Value} {l : List Nat}
theorem IntRow.nil (w : World) (base : Nat) (e : TypeId) (k : IntKind) : IntRow w base e k (.slice none 0 0) [] := World.ownsRow_nil w base e 1
theorem IntRow.heap (h : IntRow w base e k v l) (hh : w0.heap = w.heap) : IntRow w0 base e k v l := by
  unfold IntRow World.ownsRow at h ⊢
  rw [hh]
  exact h
theorem IntRow.drew (h : IntRow w base e k v l) : IntRow w.drew base e k v l := h.heap rfl
theorem IntRow.grown {row : Option Nat} (h : IntRow w base e k v l) (hg : w.grownBy w' row) (hr : v.ownBlock = none ∨ v.ownBlock ≠ row) : IntRow w' base e k v l := World.ownsRow.kept h hg hr
theorem IntRow.next (h : IntRow w base e k v l) (hb : Below w.heap.size w w') : IntRow w' base e k v l :=
  World.ownsRow.kept (row := none) h (below_grown hb none) (by cases hv : v.ownBlock <;> simp)
theorem IntRow.step (h : IntRow w base e k v l) (hb : Below w0.heap.size w0 w') (hh : w0.heap = w.heap) : IntRow w' base e k v l := (h.heap hh).next hb
theorem IntRow.alloc (h : IntRow w base e k v l) (o : Obj) : IntRow (w.alloc o) base e k v l := World.ownsRow.alloc h o
theorem IntRow.mono {base' : Nat} (h : IntRow w base e k v l) (hb : base' ≤ base) : IntRow w base' e k v l := by
  refine ⟨h.1, ?_⟩
  rcases h.2 with hn | ⟨g, cap, cur, hv, hbg, rest⟩
  · exact .inl hn
  · exact .inr ⟨g, cap, cur, hv, by omega, rest⟩
theorem IntRow.len (h : IntRow w base e k v l) : ∃ A cap, v = .slice A l.length cap := by
  rcases h.2 with ⟨rfl, hn⟩ | ⟨g, cap, cur, rfl, _⟩
  · exact ⟨none, 0, by rw [hn]⟩
  · exact ⟨_, _, rfl⟩
theorem IntRow.form (h : IntRow w base e k v l) (hn : 0 < l.length) : ∃ g cap, v = .slice (some ⟨g, 0, none⟩) l.length cap ∧ base ≤ g ∧ g < w.heap.size ∧ l.length ≤ cap ∧ cap ≤ maxLen := by
  rcases h.2 with ⟨rfl, h0⟩ | ⟨g, cap, cur, rfl, hb, hg, hc, hm, _⟩
  · omega
  · exact ⟨g, cap, rfl, hb, (Array.getElem?_eq_some_iff.1 hg).1, hc, hm⟩
theorem IntRow.at {g cap n : Nat} (h : IntRow w base e k (.slice (some ⟨g, 0, none⟩) n cap) l) (j : Nat) (hj : j < l.length) : w.cell? ⟨g, j, none⟩ = some (.int k (l[j] : Nat)) := by
  have hl : n = l.length := by
    rcases h.2 with ⟨hv, _⟩ | ⟨g', cap', cur, hv, _⟩
    · cases hv
    · injection hv
  subst hl
  rw [World.ownsRow.cellAt h j (by omega)]
  simp [hj]
theorem IntRow.max (h : IntRow w base e k v l) : l.length ≤ maxLen := by
  rcases h.2 with ⟨_, h0⟩ | ⟨g, cap, cur, _, _, _, hc, hm, _⟩
  · rw [h0]; exact Nat.zero_le _
  · omega
theorem IntRow.low (h : IntRow w base e k v l) : ∀ g, v.ownBlock = some g → base ≤ g := fun g hg => (World.ownsRow.lt h g hg).1
theorem IntRow.push {b : Nat} (h : w.ownsRow base e 1 v (l.length + 1) (l.map (fun b => Value.int k (b : Nat)) ++ [Value.int k (b : Nat)])) : IntRow w base e k v (l ++ [b]) := by
  unfold IntRow
  simpa using h
end

end Go.Proofs.YtcghclikkeajfaaGreat
