/- Small facts for the laws' walks: blocks that stand behind a call, contracts at a known answer. -/
import Derived.Test.YthmppooefajpgaaProg
import Derived.Test.YthmppooefajpgaaWords
import Derived.Test.YthmppooefajpgaaCl
import Derived.Test.YthmppooefajpgaaRight
import Derived.Test.YthmppooefajpgaaMake
import Derived.Test.YthmppooefajpgaaAlike
import Derived.Deep.RegionHeld3
namespace Go.Proofs.Ythmppooefajpgaa
open Go.RowKit

theorem wpList_load_row_want {P : Program} {ops : Array Oper} {rest : List Oper} {o : Oper} {a : Act} {w : World} {Q : Exit → Act → World → Prop} (hw : Region.wanted o (yielded ops a.tmps) = true) (ty : TypeId) (x : Operand) (ho : o.op = .load ty x)
    (g : Nat) (hx : a.eval x = .pointer (some ⟨g, 0, none⟩)) (t : TypeId) (cs : Array Value) (fr : Nat × Nat) (d : TypeDesc) (hg : w.heap[g]? = some (.cells cs t fr))
    (hu : P.underlying ty = some d) (hd : (match d with | .struct _ | .array _ _ => true | _ => false) = true) (hi : (P.info? ty).map (·.size) = some cs.size)
    (h : wpList P ops Q rest (a.put o.dst (.agg cs)) w) : wpList P ops Q (o :: rest) a w :=
  wpList_step fun K hK => by rw [if_pos hw]; exact wp_load_row ty x ho g hx t cs fr d hg hu hd hi (hK _ _ h)
theorem At.step {w w0 w' : World} {g : Nat} {t : TypeId} {cs : Array Value} (h : At w g t cs) (hb : Below w0.heap.size w0 w') (e : w0.heap = w.heap) : At w' g t cs := by
  have h0 : At w0 g t cs := by unfold At at h ⊢; rw [e]; exact h
  exact h0.below hb h0.lt
theorem cells2 {w : World} {g : Nat} {t : TypeId} {f : Cl} (h : At w g t f.cells) {a b x y : Nat} (ha : a < 256) (hb : b < 256) (hx : f.cl a = x) (hy : f.cl b = y) :
    w.cell? ⟨g, a, none⟩ = some (.int .u8 (x : Nat)) ∧ w.cell? ⟨g, b, none⟩ = some (.int .u8 (y : Nat)) := by
  subst hx; subst hy
  exact ⟨(h.cell a).trans (Cl.get f a ha), (h.cell b).trans (Cl.get f b hb)⟩
theorem refAlikeV (A : Option Addr) (n c : Nat) (l : List St) (a b : Nat) (ha : a < 256) (hb : b < 256) (v : Bool) (hv : alike l a b = v) (w : World) (h : IsSets w A n l) :
    Calls Try.prog 7 #[.slice A n c, .int .i64 a, .int .i64 b] w fun e w' => e = .returned (.bool v) ∧ Below w.heap.size w w' := by
  rw [← hv]; exact refAlike A n c l a b ha hb w h
theorem lawRightV (f : Cl) (hf : f.Ok) (v : Bool) (hv : f.right = v) (w : World) :
    Calls Try.prog 8 #[.agg f.cells] w fun e w' => e = .returned (.bool v) ∧ Below w.heap.size w w' := by
  rw [← hv]; exact lawRight f hf w
theorem clRightV (f : Cl) (hf : f.Ok) (v : Bool) (hv : f.right = v) (w : World) :
    Calls Try.prog 9 #[.agg f.cells] w fun e w' => e = .returned (.bool v) ∧ Below w.heap.size w w' := by
  rw [← hv]; exact clRight f hf w


end Go.Proofs.Ythmppooefajpgaa
