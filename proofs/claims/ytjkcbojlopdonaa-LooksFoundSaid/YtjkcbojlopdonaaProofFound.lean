/- LooksFound: for every list of patterns the law answers true, and they read as they did. No condition. -/
import Derived.Test.YtjkcbojlopdonaaRows
import Derived.Test.YtjkcbojlopdonaaLawFound
import Derived.Test.YtjkcbojlopdonaaMal
namespace Go.Proofs.Ytjkcbojlopdonaa
theorem Pats.upto {w : World} {K : Nat} {v : Value} {L : List Tr} (h : Pats w K v L) (d : Nat) : Pats w (K + d) v L := by
  obtain ⟨A, c, h1, h2, h3⟩ := h
  exact ⟨A, c, h1, h2, fun t ht => (h3 t ht).le d⟩
end Go.Proofs.Ytjkcbojlopdonaa
namespace Go.Proofs.Ytjkcbojlopdonaa.looksFound
open Go.ChangeShapes Go.WideShapes Go.ChangeAt Go.RowKit

set_option maxRecDepth 100000 in
theorem lifted (os : Os) (started : os.Started) (H : Type) (enc : TypeId × Value → H) :
    ReturnsInHanded {} Try.checked os 3 .any (Rows.looksFoundSpec.pre6 enc Try.prog Try.f3 Rows.looksFoundRow.domain false) (Rows.looksFoundSpec.post enc Try.prog Try.f3 false true false false) := by
  refine returnsInHanded_of_change (C := Try.checked) own started (by kernel_rfl) Try.func3
    (ChangeSpec.witness6 (enc := enc) (C := Try.checked) false ⟨#[], #[.slice none 0 0], []⟩ 600 (by kernel_rfl) (by kernel_rfl) (by kernel_rfl) (by kernel_rfl)) ?_
  intro W base args ds gs before hval0 hW hcnd _
  have hval : ∀ (j : Nat) t v, Try.f3.params[j]? = some t → args[j]? = some v → Value.okWide Try.prog W .any base t v := hval0
  have hW' := hW
  obtain ⟨p, q, hA0, hV, rfl, hfz, hnd⟩ := hW
  have hA : DataW.TrodAll enc Try.prog W 0 (fun _ => true) true Try.f3.params.toList args.toList ds p := hA0
  rw [Try.params3] at hA hval
  obtain ⟨v0, vs0, d0, ds0, p0, q0, hargs, rfl, rfl, h0, r0⟩ := trodAll_cons hA
  obtain ⟨rfl, rfl, rfl⟩ := trodAll_nil r0
  obtain rfl : args = #[v0] := by cases args; simp_all
  obtain ⟨rfl, rfl⟩ := trodVars_none hV
  have hzz : ∀ x ∈ p0, MemPlace.frozenIn W x = false := fun x hx => by
    cases x with
    | map b => rfl
    | cell b off => exact hfz b off (List.mem_append_left _ (List.mem_append_left _ hx))
  obtain ⟨K, l, hp, hl, hn⟩ := open_sols (I := 3) (S := 33) (U := 31) (L := 22) (B := 4) Try.underlying35 ⟨rfl, rfl⟩ ⟨rfl, rfl⟩ ⟨rfl, rfl⟩ ⟨rfl, rfl⟩ ⟨rfl, rfl⟩ ⟨rfl, rfl⟩ Try.underlying33 Try.underlying31 Try.underlying22 Try.underlying3 Try.underlying4 (by kernel_rfl) (by kernel_rfl) (by kernel_rfl) (by kernel_rfl) (by kernel_rfl) (by kernel_rfl) (hval 0 22 v0 rfl rfl) h0 hzz
  clear hA0 hval0
  refine (lawFound (K + 40) (by omega) v0 l W (hp.upto 40) (fun t ht => (hl t ht).upto (Nat.le_add_right _ _)) hn).mono fun e W' ⟨he, bel⟩ => ?_
  subst he
  exact ⟨_, rfl, _, _, _, [], _, [], hW', trodAll_mk1 (shut_bool Try.underlying4 _),
    (trodAll_cons_mk (Below.trod laidOut (by kernel_rfl) (of_decide_eq_true (by kernel_rfl)) h0 bel (trod_below h0)) trodAll_mk0), rfl, bel.frame _, fun h => by cases h⟩

theorem over : Rows.looksFoundRow.holds Try.pinned (OpenSpec.ofChange Rows.looksFoundSpec) :=
  OpenClaim.holds_of_wide 3 Try.f3 rfl rfl rfl rfl rfl rfl rfl ⟨rfl, rfl, rfl, rfl, rfl⟩ rfl rfl rfl rfl rfl (by kernel_rfl) Try.func3 (by kernel_rfl)
    (of_decide_eq_true (by kernel_rfl)) (by unfold Func.isWrapper; first | (rw [if_pos (by decide +kernel)]; kernel_rfl) | (rw [if_neg (by decide +kernel)]; exact ⟨rfl, rfl⟩))
    (fun os started H enc _ => lifted os started H enc)

theorem proved : Rows.LooksFoundSaid := over
#print axioms proved
end Go.Proofs.Ytjkcbojlopdonaa.looksFound
