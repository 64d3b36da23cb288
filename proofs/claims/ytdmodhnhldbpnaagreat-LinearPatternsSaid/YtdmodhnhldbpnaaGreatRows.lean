/-
  NARROWER THAN 'FOR EVERY INPUT', by the rows' own cells (each row's printed sentence says how): LinearPatterns: loops.
  DERIVED. THE GIVEN ROWS OF THIS SEAT. 2 by the template 'for every input the law returns true; each argument reads behind the call as it read before'; 0 by the template 'total and deterministic' (their statements: YtdmodhnhldbpnaaGreatTotals.lean).
  GIVEN WITH THE SEED: the statements are not yours to turn. If you find one false, say at which input.
  Laid BY PROGRAM, IN A SANDBOX (cutbox-rows.mjs): the forced cells as the released guide's own fill.sh prints them over the translation bae8d7a2c16b66c8… (all of the seat's roots in one cut). By AI agents, Wed Nov 11 2026. No macro, syntax, notation, axiom, sorry.
-/
import Derived.Test.YtdmodhnhldbpnaaGreatChecked
import GoSem.Claim
import GoSem.ClaimJoined
import GoSem.ClaimMapViews
import Derived.JoinedTies
import Derived.KernelRfl
namespace Go.Proofs.YtdmodhnhldbpnaaGreat
/- THE CELL 'sum', in the pinned program and in every row, IS THE sha256 OF THE DUMP (.gsa) THAT YtdmodhnhldbpnaaGreatProg.lean LOADS. Nothing in Lean hashes anything: it is a label: what it is worth is what the hold of that sum in a sandbox is worth. -/
noncomputable def Tryz.pinned : Pinned := { name := "ytdmodhnhldbpnaagreat", sum := "bae8d7a2c16b66c8c75b000e29423f16a748d0d841e269d4c7f2cda3818ba11b", checked := Tryz.checked }
namespace Rows
def none {H : Type} : Left H := { results := [], args := [] }

/-- 'bolterlaw12.LinearRuns': WHATEVER THE INPUT: true; the input reads as it did. -/
def linearRunsSpec : ChangeSpec := { name := "linearRuns", fn := fun _ => fun
  | [d1, d2, d3, d4] => { results := [.lit (.bool true)], args := [d1, d2, d3, d4] }
  | _ => none }
def linearRunsRow : OpenClaim := { program := "ytdmodhnhldbpnaagreat", sum := "bae8d7a2c16b66c8c75b000e29423f16a748d0d841e269d4c7f2cda3818ba11b", func := "bolter/bolterlaw12.LinearRuns", spec := "linearRuns", unfollowed := true, recurses := true, plainKeys := false, apart := false }
def LinearRunsSaid : Prop := linearRunsRow.holds Tryz.pinned (OpenSpec.ofChange linearRunsSpec)

/-- ITS FALSE NEIGHBOUR: 'it returns false'. Refute it at one input. -/
def linearRunsWrong : ChangeSpec := { name := "linearRuns", fn := fun _ => fun
  | [d1, d2, d3, d4] => { results := [.lit (.bool false)], args := [d1, d2, d3, d4] }
  | _ => none }
def LinearRunsWrongFalsely : Prop := linearRunsRow.holds Tryz.pinned (OpenSpec.ofChange linearRunsWrong)

/-- 'bolterlaw12.LinearPatterns': WHATEVER THE INPUT: true; the input reads as it did. -/
def linearPatternsSpec : ChangeSpec := { name := "linearPatterns", fn := fun _ => fun
  | [d1, d2] => { results := [.lit (.bool true)], args := [d1, d2] }
  | _ => none }
def linearPatternsRow : OpenClaim := { program := "ytdmodhnhldbpnaagreat", sum := "bae8d7a2c16b66c8c75b000e29423f16a748d0d841e269d4c7f2cda3818ba11b", func := "bolter/bolterlaw12.LinearPatterns", spec := "linearPatterns", unfollowed := true, recurses := true, loops := true, plainKeys := false, apart := false }
def LinearPatternsSaid : Prop := linearPatternsRow.holds Tryz.pinned (OpenSpec.ofChange linearPatternsSpec)

/-- ITS FALSE NEIGHBOUR: 'it returns false'. Refute it at one input. -/
def linearPatternsWrong : ChangeSpec := { name := "linearPatterns", fn := fun _ => fun
  | [d1, d2] => { results := [.lit (.bool false)], args := [d1, d2] }
  | _ => none }
def LinearPatternsWrongFalsely : Prop := linearPatternsRow.holds Tryz.pinned (OpenSpec.ofChange linearPatternsWrong)

/- THE SECOND FORM. 'bulk': how many values and letters a reading holds, each counted each time it is reached (what is shared counts as often as it is met; a slice's spare places count too). A statement '..UptoSaid' is the law's where the arguments, and the package variables that the reading takes, are together of bulk at most 1048576: NARROWER than '..Said'. Prove '..Said' where nothing that the law and all that it calls make is longer than what came in: it says more and counts as full. Else prove '..UptoSaid'. A law counts once. -/
mutual
def uptoBulk {H : Type} : DataW H → Nat
  | .lit (.string bytes) => bytes.length + 1
  | .lit _ => 1
  | .nil => 1
  | .ptr d => uptoBulk d + 1
  | .slice elems spare => uptoBulkAll elems + uptoBulkAll spare + 1
  | .agg parts => uptoBulkAll parts + 1
  | .iface _ d => uptoBulk d + 1
  | .map entries => uptoBulkEntries entries + 1
  | .held _ => 1
def uptoBulkAll {H : Type} : List (DataW H) → Nat
  | [] => 0
  | d :: r => uptoBulk d + uptoBulkAll r
def uptoBulkEntries {H : Type} : List (Lit × DataW H) → Nat
  | [] => 0
  | x :: r => uptoBulkEntry x + uptoBulkEntries r
def uptoBulkEntry {H : Type} : Lit × DataW H → Nat
  | (.string bytes, d) => bytes.length + uptoBulk d + 1
  | (_, d) => uptoBulk d + 1
 end
def uptoSmall : (H : Type) → List (DataW H) → Bool := fun _ ds => decide (uptoBulkAll ds ≤ 1048576)
def OpenSpec.upto (s : _root_.Go.ChangeSpec) : _root_.Go.OpenSpec := { _root_.Go.OpenSpec.ofChange s with cond := some uptoSmall }

/-- 'bolterlaw12.LinearRuns', WHERE WHAT IT READS IS OF BULK AT MOST 1048576: true; the input reads as it did. -/
def linearRunsUptoRow : OpenClaim := { program := "ytdmodhnhldbpnaagreat", sum := "bae8d7a2c16b66c8c75b000e29423f16a748d0d841e269d4c7f2cda3818ba11b", func := "bolter/bolterlaw12.LinearRuns", spec := "linearRuns", unfollowed := true, recurses := true, plainKeys := false, apart := false, narrowed := true }
def LinearRunsUptoSaid : Prop := linearRunsUptoRow.holds Tryz.pinned (OpenSpec.upto linearRunsSpec)

/-- 'bolterlaw12.LinearPatterns', WHERE WHAT IT READS IS OF BULK AT MOST 1048576: true; the input reads as it did. -/
def linearPatternsUptoRow : OpenClaim := { program := "ytdmodhnhldbpnaagreat", sum := "bae8d7a2c16b66c8c75b000e29423f16a748d0d841e269d4c7f2cda3818ba11b", func := "bolter/bolterlaw12.LinearPatterns", spec := "linearPatterns", unfollowed := true, recurses := true, loops := true, plainKeys := false, apart := false, narrowed := true }
def LinearPatternsUptoSaid : Prop := linearPatternsUptoRow.holds Tryz.pinned (OpenSpec.upto linearPatternsSpec)

end Rows
end Go.Proofs.YtdmodhnhldbpnaaGreat
