/-
  No cell of these rows narrows 'for every input' (looked for: loops, veiled, ifaces, maps, wideKeys, modest, calm, conditions, laid).
  DERIVED. THE GIVEN ROWS OF THIS SEAT. 3 by the template 'for every input the law returns true; each argument reads behind the call as it read before'; 0 by the template 'total and deterministic' (their statements: YtdcmalfjciekoaaTotals.lean).
  GIVEN WITH THE SEED: the statements are not yours to turn. If you find one false, say at which input.
  Laid BY PROGRAM, IN A SANDBOX (cutbox-rows.mjs): the forced cells as the released guide's own fill.sh prints them over the translation 4d959484ced35a25… (all of the seat's roots in one cut). By AI agents, Wed Nov 11 2026. No macro, syntax, notation, axiom, sorry.
-/
import Derived.Test.YtdcmalfjciekoaaChecked
import GoSem.Claim
import GoSem.ClaimJoined
import GoSem.ClaimMapViews
import Derived.JoinedTies
import Derived.KernelRfl
namespace Go.Proofs.Ytdcmalfjciekoaa
/- THE CELL 'sum', in the pinned program and in every row, IS THE sha256 OF THE DUMP (.gsa) THAT YtdcmalfjciekoaaProg.lean LOADS. Nothing in Lean hashes anything: it is a label: what it is worth is what the hold of that sum in a sandbox is worth. -/
noncomputable def Try.pinned : Pinned := { name := "ytdcmalfjciekoaa", sum := "4d959484ced35a259f267d935609a9e85de642c74367dbebd9f6442366a4e29d", checked := Try.checked }
namespace Rows
def none {H : Type} : Left H := { results := [], args := [] }

/-- 'bolterlaw01.SetOps': WHATEVER THE INPUT: true; the input reads as it did. -/
def setOpsSpec : ChangeSpec := { name := "setOps", fn := fun _ => fun
  | [d1, d2] => { results := [.lit (.bool true)], args := [d1, d2] }
  | _ => none }
def setOpsRow : OpenClaim := { program := "ytdcmalfjciekoaa", sum := "4d959484ced35a259f267d935609a9e85de642c74367dbebd9f6442366a4e29d", func := "bolter/bolterlaw01.SetOps", spec := "setOps", apart := false }
def SetOpsSaid : Prop := setOpsRow.holds Try.pinned (OpenSpec.ofChange setOpsSpec)

/-- ITS FALSE NEIGHBOUR: 'it returns false'. Refute it at one input. -/
def setOpsWrong : ChangeSpec := { name := "setOps", fn := fun _ => fun
  | [d1, d2] => { results := [.lit (.bool false)], args := [d1, d2] }
  | _ => none }
def SetOpsWrongFalsely : Prop := setOpsRow.holds Try.pinned (OpenSpec.ofChange setOpsWrong)

/-- 'bolterlaw01.SetMakes': WHATEVER THE INPUT: true; the input reads as it did. -/
def setMakesSpec : ChangeSpec := { name := "setMakes", fn := fun _ => fun
  | [d1, d2, d3] => { results := [.lit (.bool true)], args := [d1, d2, d3] }
  | _ => none }
def setMakesRow : OpenClaim := { program := "ytdcmalfjciekoaa", sum := "4d959484ced35a259f267d935609a9e85de642c74367dbebd9f6442366a4e29d", func := "bolter/bolterlaw01.SetMakes", spec := "setMakes", apart := false }
def SetMakesSaid : Prop := setMakesRow.holds Try.pinned (OpenSpec.ofChange setMakesSpec)

/-- ITS FALSE NEIGHBOUR: 'it returns false'. Refute it at one input. -/
def setMakesWrong : ChangeSpec := { name := "setMakes", fn := fun _ => fun
  | [d1, d2, d3] => { results := [.lit (.bool false)], args := [d1, d2, d3] }
  | _ => none }
def SetMakesWrongFalsely : Prop := setMakesRow.holds Try.pinned (OpenSpec.ofChange setMakesWrong)

/-- 'bolterlaw01.SetFolds': WHATEVER THE INPUT: true; the input reads as it did. -/
def setFoldsSpec : ChangeSpec := { name := "setFolds", fn := fun _ => fun
  | [d] => { results := [.lit (.bool true)], args := [d] }
  | _ => none }
def setFoldsRow : OpenClaim := { program := "ytdcmalfjciekoaa", sum := "4d959484ced35a259f267d935609a9e85de642c74367dbebd9f6442366a4e29d", func := "bolter/bolterlaw01.SetFolds", spec := "setFolds", apart := false }
def SetFoldsSaid : Prop := setFoldsRow.holds Try.pinned (OpenSpec.ofChange setFoldsSpec)

/-- ITS FALSE NEIGHBOUR: 'it returns false'. Refute it at one input. -/
def setFoldsWrong : ChangeSpec := { name := "setFolds", fn := fun _ => fun
  | [d] => { results := [.lit (.bool false)], args := [d] }
  | _ => none }
def SetFoldsWrongFalsely : Prop := setFoldsRow.holds Try.pinned (OpenSpec.ofChange setFoldsWrong)

/- THE SECOND FORM. 'bulk': how many values and letters a reading holds, each counted each time it is reached (what is shared counts as often as it is met; a slice's spare places count too). A statement '..UptoSaid' is the law's where the arguments, and the package variables that the reading takes, are together of bulk at most 1048576: NARROWER than '..Said'. Prove '..Said' where nothing that the law and all that it calls make is longer than what came in: it says more and counts as full. Else prove '..UptoSaid'. A law counts once. -/
mutual
def uptoBulk {H : Type} : DataW H → Nat
  | .lit (.string bytes) => bytes.length + 1
  | .lit _ => 1
  | .nil => 1
  | .ptr d => uptoBulk d + 1
  | .slice elems spare => uptoBulkAll elems + uptoBulkAll spare + 1
  | .agg parts => uptoBulkAll parts + 1
  | .iface _ d => uptoBulk d + 1
  | .map entries => uptoBulkEntries entries + 1
  | .held _ => 1
def uptoBulkAll {H : Type} : List (DataW H) → Nat
  | [] => 0
  | d :: r => uptoBulk d + uptoBulkAll r
def uptoBulkEntries {H : Type} : List (Lit × DataW H) → Nat
  | [] => 0
  | x :: r => uptoBulkEntry x + uptoBulkEntries r
def uptoBulkEntry {H : Type} : Lit × DataW H → Nat
  | (.string bytes, d) => bytes.length + uptoBulk d + 1
  | (_, d) => uptoBulk d + 1
 end
def uptoSmall : (H : Type) → List (DataW H) → Bool := fun _ ds => decide (uptoBulkAll ds ≤ 1048576)
def OpenSpec.upto (s : _root_.Go.ChangeSpec) : _root_.Go.OpenSpec := { _root_.Go.OpenSpec.ofChange s with cond := some uptoSmall }

/-- 'bolterlaw01.SetOps', WHERE WHAT IT READS IS OF BULK AT MOST 1048576: true; the input reads as it did. -/
def setOpsUptoRow : OpenClaim := { program := "ytdcmalfjciekoaa", sum := "4d959484ced35a259f267d935609a9e85de642c74367dbebd9f6442366a4e29d", func := "bolter/bolterlaw01.SetOps", spec := "setOps", apart := false, narrowed := true }
def SetOpsUptoSaid : Prop := setOpsUptoRow.holds Try.pinned (OpenSpec.upto setOpsSpec)

/-- 'bolterlaw01.SetMakes', WHERE WHAT IT READS IS OF BULK AT MOST 1048576: true; the input reads as it did. -/
def setMakesUptoRow : OpenClaim := { program := "ytdcmalfjciekoaa", sum := "4d959484ced35a259f267d935609a9e85de642c74367dbebd9f6442366a4e29d", func := "bolter/bolterlaw01.SetMakes", spec := "setMakes", apart := false, narrowed := true }
def SetMakesUptoSaid : Prop := setMakesUptoRow.holds Try.pinned (OpenSpec.upto setMakesSpec)

/-- 'bolterlaw01.SetFolds', WHERE WHAT IT READS IS OF BULK AT MOST 1048576: true; the input reads as it did. -/
def setFoldsUptoRow : OpenClaim := { program := "ytdcmalfjciekoaa", sum := "4d959484ced35a259f267d935609a9e85de642c74367dbebd9f6442366a4e29d", func := "bolter/bolterlaw01.SetFolds", spec := "setFolds", apart := false, narrowed := true }
def SetFoldsUptoSaid : Prop := setFoldsUptoRow.holds Try.pinned (OpenSpec.upto setFoldsSpec)

end Rows
end Go.Proofs.Ytdcmalfjciekoaa
