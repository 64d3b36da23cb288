/- What a formula package does. -/
import Derived.Test.YtehokjaojanieaaFmFew
namespace Go.Proofs.Ytehokjaojanieaa
open Go.RowKit
set_option linter.unusedVariables false

/-- Two formulas of a size that is looked at. -/
def Small (f g : Fm) : Prop := f.flatten.length + g.flatten.length ≤ 100000 ∧ (atomsS [f, g]).length ≤ 9
/-- What a call answers: a formula, and whether it is one. -/
def Answer (w : World) (e : Ending) (w' : World) (P : Fm → Int → Prop) : Prop := ∃ (A : Option Addr) (c : Nat) (x : Fm) (er : Int), e = .returned (.tuple #[.slice A x.length c, .int .i64 er]) ∧ FmAt w' (.slice A x.length c) x ∧ P x er ∧ Below w.heap.size w w'
structure FormulaSpec : Prop where
  awake : ∀ w : World, Calls Try.prog 5 #[] w fun e w' => e = .returned (.bool true) ∧ Below w.heap.size w w'
  formed : ∀ {w : World} {A : Option Addr} {n c : Nat} {f : Fm}, FmAt w (.slice A n c) f → f.flatten.length ≤ 100000 → Calls Try.prog 8 #[.slice A n c] w fun e w' => e = .returned (.bool (fmS f)) ∧ Below w.heap.size w w'
  or : ∀ {w : World} {A B : Option Addr} {n c m d : Nat} {f g : Fm}, FmAt w (.slice A n c) f → FmAt w (.slice B m d) g → Small f g → Calls Try.prog 9 #[.slice A n c, .slice B m d] w fun e w' => Answer w e w' (fun x er => (fmS f = true ∧ fmS g = true → er = 0 ∧ x = opS 0 f g) ∧ (¬ (fmS f = true ∧ fmS g = true) → er = 1 ∧ x = []))
  and : ∀ {w : World} {A B : Option Addr} {n c m d : Nat} {f g : Fm}, FmAt w (.slice A n c) f → FmAt w (.slice B m d) g → Small f g → Calls Try.prog 10 #[.slice A n c, .slice B m d] w fun e w' => Answer w e w' (fun x er => (fmS f = true ∧ fmS g = true → er = 0 ∧ x = opS 1 f g) ∧ (¬ (fmS f = true ∧ fmS g = true) → er = 1 ∧ x = []))
  dual : ∀ {w : World} {A : Option Addr} {n c : Nat} {f : Fm}, FmAt w (.slice A n c) f → Small f [] → Calls Try.prog 11 #[.slice A n c] w fun e w' => Answer w e w' (fun x er => (fmS f = true → er = 0 ∧ x = opS 2 f []) ∧ (¬ fmS f = true → er = 1 ∧ x = []))
  same : ∀ {w : World} {A B : Option Addr} {n c m d : Nat} {f g : Fm}, FmAt w (.slice A n c) f → FmAt w (.slice B m d) g → Calls Try.prog 15 #[.slice A n c, .slice B m d] w fun e w' => e = .returned (.bool (decide (f = g))) ∧ Below w.heap.size w w'

end Go.Proofs.Ytehokjaojanieaa
