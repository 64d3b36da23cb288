/- Lists of macros that are appended to: 'append(append([]macro.Macro{}, l[k:]...), l[:k]...)', step by step in a statement whose order is open. -/
import Derived.Test.YtkbfoelffeocmaaMacAwake
import Derived.Deep.AppendSrc
import Derived.Deep.AppendLies
import Derived.Laws.OwnMore
import Derived.Deep.RegionHeld3
namespace Go.Proofs.Ytkbfoelffeocmaa
open Go.RowKit
set_option linter.unusedSimpArgs false
set_option linter.unusedVariables false

def macL (l : List (ByteArray × ByteArray)) : List Value := l.flatMap macCs
theorem macL_length (l : List (ByteArray × ByteArray)) : (macL l).length = l.length * 2 := by
  unfold macL
  induction l with
  | nil => rfl
  | cons m r ih => rw [List.flatMap_cons, List.length_append, ih, List.length_cons]; show 2 + _ = _; omega
theorem macL_at (l : List (ByteArray × ByteArray)) : ∀ (k i : Nat) (h : k < l.length), i < 2 → (macL l)[k * 2 + i]? = (macCs (atM l k))[i]? := by
  induction l with
  | nil => intro k i h; exact absurd h (Nat.not_lt_zero _)
  | cons m r ih =>
    intro k i h hi
    unfold macL
    rw [List.flatMap_cons]
    cases k with
    | zero => rw [Nat.zero_mul, Nat.zero_add, List.getElem?_append_left (by show i < 2; exact hi)]; rfl
    | succ k =>
      rw [List.getElem?_append_right (by show 2 ≤ _; omega), show (k + 1) * 2 + i - (macCs m).length = k * 2 + i by show _ - 2 = _; omega, atM_succ]
      exact ih k i (by simpa using h) hi
theorem macL_one (l : List (ByteArray × ByteArray)) : ∀ u ∈ macL l, u.oneCell' = true := by
  intro u hu
  unfold macL at hu
  rw [List.mem_flatMap] at hu
  obtain ⟨m, _, hu⟩ := hu
  have : u = .string m.1 ∨ u = .string m.2 := by simpa [macCs] using hu
  rcases this with rfl | rfl <;> rfl
theorem macL_app (l r : List (ByteArray × ByteArray)) : macL l ++ macL r = macL (l ++ r) := by unfold macL; rw [List.flatMap_append]
theorem MacsAt.news {w : World} {b off n c : Nat} {l : List (ByteArray × ByteArray)} (h : MacsAt w (.slice (some ⟨b, off, none⟩) n c) l) (hn : 0 < n) : ∀ j u, (macL l)[j]? = some u → w.cell? ((⟨b, off, none⟩ : Addr).add j) = some u := by
  obtain rfl := h.len
  intro j u hu
  have hj : j < l.length * 2 := by have := (List.getElem?_eq_some_iff.1 hu).1; rwa [macL_length] at this
  obtain ⟨A, cap, e1, _, h3⟩ := h
  injection e1 with e1 _ _
  obtain ⟨b', off', e, _, hr⟩ := h3 hn
  rw [← e1] at e
  injection e with e
  injection e with e2 e3
  subst e2; subst e3
  rw [add_plain2, show off + j = off + (j / 2) * 2 + j % 2 by omega]
  have hm := macL_at l (j / 2) (j % 2) (by omega) (by omega)
  rw [show j / 2 * 2 + j % 2 = j by omega, hu] at hm
  exact hr (j / 2) (by omega) (j % 2) u hm.symm
def MacRow (w : World) (base : Nat) (v : Value) (l : List (ByteArray × ByteArray)) : Prop := w.ownsRow base 40 2 v l.length (macL l)
theorem MacRow.macs {w : World} {base g n cap : Nat} {l : List (ByteArray × ByteArray)} (h : MacRow w base (.slice (some ⟨g, 0, none⟩) n cap) l) (hl : n = l.length) (hn : n ≤ 9223372036854775807) (hg : g < w.heap.size) : MacsAt w (.slice (some ⟨g, 0, none⟩) n cap) l := by
  subst hl
  refine ⟨_, cap, rfl, hn, fun _ => ⟨g, 0, rfl, hg, fun k hk i u hu => ?_⟩⟩
  have hi : i < 2 := by have := (List.getElem?_eq_some_iff.1 hu).1; simpa [macCs] using this
  rw [Nat.zero_add, World.ownsRow.cellAt h (k * 2 + i) (by omega), macL_at l k i hk hi]
  exact hu
theorem info_mac : (Try.prog.info? 40).map (fun i => (i.zero, i.size, i.bytes)) = some (some (.agg #[.string { data := #[] }, .string { data := #[] }]), 2, 32) := by kernel_rfl
/-- 'append([]macro.Macro{}, l...)'. -/
theorem append_macs (w : World) (base g : Nat) (A : Option Addr) (n c : Nat) (l : List (ByteArray × ByteArray)) (ty : TypeId) (h4 : At w g 40 #[]) (hb : base ≤ g) (hbw : base ≤ w.heap.size) (hI : MacsAt w (.slice A n c) l) (hn : n ≤ 30) (hn0 : 0 < n) :
    ∃ v w', (Builtin.append_ #[22, 22] ty #[.slice (some ⟨g, 0, none⟩) 0 0, .slice A n c]).run Try.prog w = .ok v w' ∧ (MacRow w' base v l ∧ w.grownBy w' (some g)) := by
  obtain ⟨i, hi, hz, hsz, hby⟩ := info_parts info_mac
  obtain rfl := hI.len
  have hown : w.ownsRow base 40 2 (.slice (some ⟨g, 0, none⟩) 0 0) 0 [] := ⟨rfl, .inr ⟨g, 0, #[], rfl, hb, h4, Nat.le_refl _, Nat.zero_le _, rfl, rfl⟩⟩
  obtain ⟨A', cap, e1, _, h3⟩ := id hI
  injection e1 with e1 _ e3
  subst e1
  subst e3
  obtain ⟨b, off, rfl, _, _⟩ := h3 hn0
  obtain ⟨v', w', hr, h2, h3, _, _⟩ := run_append_own_at (P := Try.prog) w base 22 ty 40 i _ 2 32 Try.underlying22 hi hz hsz hby rfl (by omega) _ 0 [] hown ⟨b, off, none⟩ l.length c (macL l) (by rw [macL_length]) (hI.news hn0) (macL_one l) (by unfold maxLen; omega) (by omega) hbw
  refine ⟨v', w', hr, ?_, h3⟩
  rw [Nat.zero_add, List.nil_append] at h2
  exact h2
/-- 'append(.., l...)'. -/
theorem append_more (w : World) (base : Nat) (v : Value) (l1 l : List (ByteArray × ByteArray)) (A : Option Addr) (n c : Nat) (ty : TypeId) (h6 : MacRow w base v l1) (hbw : base ≤ w.heap.size) (hI : MacsAt w (.slice A n c) l) (hn : n ≤ 30) (hn1 : l1.length ≤ 30) (h01 : 0 < l1.length) :
    ∃ v' w', (Builtin.append_ #[22, 22] ty #[v, .slice A n c]).run Try.prog w = .ok v' w' ∧ (MacRow w' base v' (l1 ++ l) ∧ w.grownBy w' v.ownBlock) := by
  obtain ⟨i, hi, hz, hsz, hby⟩ := info_parts info_mac
  obtain rfl := hI.len
  obtain ⟨A', cap, e1, _, h3⟩ := id hI
  injection e1 with e1 _ e3
  subst e1
  subst e3
  by_cases hn0 : l.length = 0
  · have hlz : l = [] := List.eq_nil_of_length_eq_zero hn0
    subst hlz
    obtain ⟨g, cap1, rfl, hbg, hlt⟩ := World.ownsRow.form h6 h01
    have hsrc : Src Try.prog i.size 22 (.slice A 0 c) 0 [] w := by
      cases A with
      | none => exact Src.ofNil w Try.underlying22 c
      | some a => exact Src.ofSlice w Try.underlying22 a 0 c [] (by simp) (by simp) (by simp)
    obtain ⟨hl6, h6' | ⟨g', cap', cur, e, hb', hh, hc1, hc2, hc3, hx⟩⟩ := id h6
    · exact absurd h6'.1 (by intro q; cases q)
    · injection e with e1 e2 e3
      injection e1 with e1
      injection e1 with e1
      subst e1; subst e3
      have hr := run_append_room_src w 22 22 ty 40 i Try.underlying22 hi g 0 l1.length cap1 (.slice A 0 c) 0 [] hsrc (by omega) (by simp) (by simp)
      refine ⟨_, _, hr, ?_, ⟨rfl, rfl, rfl, Nat.le_refl _, fun _ _ _ => rfl⟩⟩
      rw [List.append_nil]
      exact h6
  · obtain ⟨b, off, rfl, _, _⟩ := h3 (by omega)
    obtain ⟨v', w', hr, h2, h3, _, _⟩ := run_append_own_at (P := Try.prog) w base 22 ty 40 i _ 2 32 Try.underlying22 hi hz hsz hby rfl (by omega) v l1.length (macL l1) h6 ⟨b, off, none⟩ l.length c (macL l) (by rw [macL_length]) (hI.news (by omega)) (macL_one l) (by unfold maxLen; omega) (by omega) hbw
    rw [macL_app] at h2
    refine ⟨v', w', hr, ?_, h3⟩
    show w'.ownsRow base _ 2 v' (l1 ++ l).length _
    rw [List.length_append]
    exact h2

end Go.Proofs.Ytkbfoelffeocmaa
