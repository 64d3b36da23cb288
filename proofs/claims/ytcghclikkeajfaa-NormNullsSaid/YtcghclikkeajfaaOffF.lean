/- What has turned: one step behind another. -/
import Derived.Test.YtcghclikkeajfaaMe
namespace Go.Proofs.Ytcghclikkeajfaa
open Go.RowKit
set_option linter.unusedVariables false

theorem OffF.then {F : Nat → Prop} {w w1 w2 : World} (h : OffF F w w1) (hb : Below w1.heap.size w1 w2) : OffF F w w2 :=
  ⟨hb.os.trans h.os, hb.tape.trans h.tape, hb.output.trans h.output, Nat.le_trans h.size hb.size, fun b hlt hn => (hb.block b (Nat.lt_of_lt_of_le hlt h.size)).trans (h.block b hlt hn)⟩
theorem OffF.off {F F' : Nat → Prop} {w w1 w2 : World} (h : OffF F w w1) (h2 : OffF F' w1 w2) (hF : ∀ b, F' b → F b ∨ w.heap.size ≤ b) : OffF F w w2 :=
  ⟨h2.os.trans h.os, h2.tape.trans h.tape, h2.output.trans h.output, Nat.le_trans h.size h2.size, fun b hlt hn => (h2.block b (Nat.lt_of_lt_of_le hlt h.size) (fun q => by
    rcases hF b q with c | c
    · exact hn c
    · omega)).trans (h.block b hlt hn)⟩
theorem OffF.grown {F : Nat → Prop} {w w1 w2 : World} {row : Option Nat} (h : OffF F w w1) (hg : w1.grownBy w2 row) (hr : ∀ b, row = some b → F b ∨ w.heap.size ≤ b) : OffF F w w2 :=
  ⟨hg.os.trans h.os, hg.tape.trans h.tape, hg.output.trans h.output, Nat.le_trans h.size hg.size, fun b hlt hn => (hg.block b (Nat.lt_of_lt_of_le hlt h.size) (fun e => by
    rcases hr b e.symm with c | c
    · exact hn c
    · omega)).trans (h.block b hlt hn)⟩
theorem OffF.set {F : Nat → Prop} {w w1 : World} {g i : Nat} (h : OffF F w w1) (hg : F g) (v : Value) : OffF F w (w1.setCell ⟨g, i, none⟩ v) :=
  ⟨h.os, h.tape, h.output, (by rw [World.size_setCell]; exact h.size), fun b hlt hn => by
    rw [Below.heap_setCell w1 ⟨g, i, none⟩ v b (fun e => hn (by rw [e]; exact hg))]
    exact h.block b hlt hn⟩

end Go.Proofs.Ytcghclikkeajfaa
