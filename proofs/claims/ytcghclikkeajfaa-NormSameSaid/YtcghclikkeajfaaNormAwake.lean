/- bolterlaw10.awake, by what putting together does. -/
import Derived.Test.YtcghclikkeajfaaMe
namespace Go.Proofs.Ytcghclikkeajfaa
open Go.RowKit
set_option linter.unusedSimpArgs false
set_option linter.unusedVariables false

theorem list_two (w : World) (x y : Int) (t : TypeId) : ListAt (w.alloc (.cells #[.int .i64 x, .int .i64 y] t)) (.slice (some ⟨w.heap.size, 0, none⟩) 2 2) [x, y] :=
  ⟨_, _, rfl, fun _ => ⟨w.heap.size, 0, rfl, by simp, fun j hj => by
    have h := (At.new w t #[.int .i64 x, .int .i64 y]).cell (0 + j)
    rw [h]
    have hj : j < 2 := hj
    have : j = 0 ∨ j = 1 := by omega
    rcases this with rfl | rfl <;> rfl⟩⟩
theorem list_three (w : World) (x y z : Int) (t : TypeId) : ListAt (w.alloc (.cells #[.int .i64 x, .int .i64 y, .int .i64 z] t)) (.slice (some ⟨w.heap.size, 0, none⟩) 3 3) [x, y, z] :=
  ⟨_, _, rfl, fun _ => ⟨w.heap.size, 0, rfl, by simp, fun j hj => by
    have h := (At.new w t #[.int .i64 x, .int .i64 y, .int .i64 z]).cell (0 + j)
    rw [h]
    have hj : j < 3 := hj
    have : j = 0 ∨ j = 1 ∨ j = 2 := by omega
    rcases this with rfl | rfl | rfl <;> rfl⟩⟩
theorem list_nil (w : World) : ListAt w (.slice none 0 0) [] := ⟨none, 0, rfl, fun h => absurd h (Nat.not_lt_zero _)⟩
theorem mem_len_le {ns : List Nd} (hf : FineN ns) {k : Int} (hk : k = 4 ∨ k = 5) (hc : Canon ns) {x : Int} (hx : isIn ns x) : (mem ns k x).length ≤ ns.length := by
  have hp : (mem ns k x).Pairwise (· < ·) := by
    by_cases e : kd ns x = k
    · exact (hc.join k hk x hx e).2.1
    · rw [mem_leaf e]; exact List.pairwise_singleton _ _
  have hb : ∀ y ∈ mem ns k x, 0 ≤ y ∧ y < ns.length := fun y hy => (mem_in hf hk _ x (Nat.le_refl _) hx y hy).1
  have : ∀ (l : List Int) (lo : Int), l.Pairwise (· < ·) → (∀ y ∈ l, lo ≤ y ∧ y < ns.length) → (l.length : Int) ≤ max 0 ((ns.length : Int) - lo) := by
    intro l
    induction l with
    | nil => intro lo _ _; simp; omega
    | cons y l ih =>
      intro lo hp hb
      obtain ⟨h1, h2⟩ := List.pairwise_cons.1 hp
      have := ih (y + 1) h2 (fun z hz => ⟨by have := h1 z hz; omega, (hb z (List.mem_cons_of_mem _ hz)).2⟩)
      have hy := hb y (by simp)
      rw [List.length_cons]
      omega
  have := this _ 0 hp hb
  omega
section
variable {AA : World → Value → List Nd → (Nat → Prop) → Prop}
theorem null_empty {ns : List Nd} (hc : Canon ns) {bits : Nat} {x : Int} (hx : isIn ns x) (h : kd ns x = 1) : nullS ns bits x = true := by
  unfold nullS
  rw [decide_eq_true (show 0 ≤ x ∧ x < (ns.length : Int) from hx), Bool.true_and]
  obtain ⟨j, rfl⟩ : ∃ j : Nat, x = (j : Int) := ⟨x.toNat, by unfold isIn at hx; omega⟩
  rw [nodeT_eq [] [bits] ns (fun j hj => hc.fine.ok j hj) j (by unfold isIn at hx; omega)]
  unfold nodeF
  unfold kd at h
  rw [Int.toNat_natCast] at h
  rw [if_pos h]
  rfl
set_option maxRecDepth 100000 in
set_option maxHeartbeats 8000000 in
theorem lawAwake10 (S : ArenaBig AA) (N : NormSpec AA) (w : World) : Calls Try.prog 5 #[] w fun e w' => e = .returned (.bool true) ∧ Below w.heap.size w w' := by
  go_enter Try.func5, Try.ntmps5
  go_wp2_with fail
  refine (S.new w).mono ?_
  rintro e w1 ⟨a, F1, rfl, hA1, hF1, hB1⟩
  have HB1 := Lib.hid hB1
  have HF1 := Lib.hid hF1
  have HA1 := Lib.hid hA1
  clear hA1 hF1 hB1
  go_wp2_with fail
  refine (N.empty HA1.out canon_nil (by simp)).mono ?_
  rintro e w2 ⟨r, more, F2, rfl, hA2, hF2, ho2, hC2, hin, hk, hm⟩
  rw [List.nil_append] at hA2 hC2 hin hk
  have HA2 := Lib.hid hA2
  have HC2 := Lib.hid hC2
  have HB2 : Hid (Below w.heap.size w w2) := Lib.hid (HB1.out.trans (ho2.below (fun b q => HF1.out b q) HB1.out.size))
  have HF2 : Hid (∀ b, F2 b → w.heap.size ≤ b) := Lib.hid (fun b q => by rcases hF2 b q with h | h; exact HF1.out b h; exact Nat.le_trans HB1.out.size h)
  have HIn := Lib.hid hin
  have hr0 : (0 : Int) ≤ r := hin.1
  have e0 : decide ((0 : Int) ≤ r) = true := decide_eq_true hr0
  have hrI : I64 r := by unfold isIn at hin; unfold I64; omega
  have HrI := Lib.hid hrI
  have HNu : Hid (nullS more 0 r = true) := Lib.hid (null_empty hC2 hin hk)
  have HNull := Lib.hid (N.null r 0 hA2 hrI (by omega))
  have Hm := Lib.hid hm
  clear hA2 hF2 ho2 hC2 hin hk hrI hm
  go_wp2_with fail
  refine HNull.out.mono ?_
  rintro e w3 ⟨rfl, hb3⟩
  rw [HNu.out]
  have HA3 := Lib.hid (S.next HA2.out hb3)
  have HB3 := Lib.hid (HB2.out.trans (hb3.mono HB2.out.size))
  have HA4 := Lib.hid (S.next HA3.out ((Below.refl _ _).alloc (Nat.le_refl _) (.cells #[.int .i64 r, .int .i64 r] 3)))
  have HB4 := Lib.hid (HB3.out.alloc HB3.out.size (.cells #[.int .i64 r, .int .i64 r] 3))
  have HLe := Lib.hid (mem_len_le HC2.out.fine (k := 4) (Or.inl rfl) HC2.out HIn.out)
  clear hb3
  go_wp2_with fail
  refine (N.or [r, r] HA4.out HC2.out (list_two _ r r _) (fun x hx => by simp at hx; subst hx; exact HIn.out) (by unfold memN; simp; have := Hm.out; have := HLe.out; omega)).mono ?_
  rintro e w5 ⟨r', more2, F5, rfl, hA5, hF5, ho5, hC5, hin5, hj5, hm5, _⟩
  have hrr : r' = r := join_same hC5 (Or.inl rfl) (HIn.out.up more2) hj5
  subst hrr
  have HB5 : Hid (Below w.heap.size w w5) := Lib.hid (HB4.out.trans (ho5.below (fun b q => HF2.out b q) HB4.out.size))
  clear hA5 hF5 ho5 hC5 hin5 hj5 hm5
  go_wp2_with fail
  go_ret
  exact ⟨rfl, HB5.out⟩
end

end Go.Proofs.Ytcghclikkeajfaa
