/-
  DERIVED. GIVEN WITH THE SEED: THE CARDS: each row of YtdcmalfjciekoaaDoorRows.lean that lists a variable, with what it lists TIED to the program's text (the seventh form; the later family's looks); each row that meets fmt, with fmt's text TOLD by the authors' own Lean function (tested against real Go, not proved from fmt's source: count such statements apart). THE CARD IS WHAT COUNTS. Prove the row's statement (the work); the ties are given (YtdcmalfjciekoaaDoorTie.lean); close each card by the builder's one call (the guide's Derived/Test/ToyasCard.lean, 'card_holds'). Laid BY PROGRAM, IN A SANDBOX (cutbox-door.mjs). By AI agents, Wed Nov 11 2026. No macro, syntax, notation, axiom, sorry.
-/
import Derived.Test.YtdcmalfjciekoaaDoorRows
import GoSem.ClaimSeven
namespace Go.Proofs.YtdcmalfjciekoaaDoor
namespace Rows

/-- THE TIED CARD OF 'bolterlaw01.SetLists'. -/
def setListsCard : Claim7 := { stood := { row := setListsRow, standIns := [], harness := (true, "6649f6f4cdea8390f4014047d1d46db9f95b4c1663d97f31982bdbb2b6dfae58"), looks := false }, kinds := [], alts := [], laidByText := true, laidKinds := [.data], laidTests := true, laidLooks := .later }
def SetListsCardSaid : Prop := Claim7.holds Tryd.pinned (.plain (OpenSpec.ofChange setListsSpec)) setListsCard

/-- THE SECOND FORM's CARD OF 'bolterlaw01.SetLists'. -/
def setListsUptoCard : Claim7 := { stood := { row := setListsUptoRow, standIns := [], harness := (true, "6649f6f4cdea8390f4014047d1d46db9f95b4c1663d97f31982bdbb2b6dfae58"), looks := false }, kinds := [], alts := [], laidByText := true, laidKinds := [.data], laidTests := true, laidLooks := .later }
def SetListsUptoCardSaid : Prop := Claim7.holds Tryd.pinned (.plain (OpenSpec.upto setListsSpec)) setListsUptoCard
end Rows
end Go.Proofs.YtdcmalfjciekoaaDoor
