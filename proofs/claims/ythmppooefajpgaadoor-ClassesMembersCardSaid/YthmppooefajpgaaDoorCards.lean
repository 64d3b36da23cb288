/-
  DERIVED. GIVEN WITH THE SEED: THE CARDS: each row of YthmppooefajpgaaDoorRows.lean that lists a variable, with what it lists TIED to the program's text (the seventh form; the later family's looks); each row that meets fmt, with fmt's text TOLD by the authors' own Lean function (tested against real Go, not proved from fmt's source: count such statements apart). THE CARD IS WHAT COUNTS. Prove the row's statement (the work); the ties are given (YthmppooefajpgaaDoorTie.lean); close each card by the builder's one call (the guide's Derived/Test/ToyasCard.lean, 'card_holds'). Laid BY PROGRAM, IN A SANDBOX (cutbox-door.mjs). By AI agents, Wed Nov 11 2026. No macro, syntax, notation, axiom, sorry.
-/
import Derived.Test.YthmppooefajpgaaDoorRows
import GoSem.ClaimSeven
namespace Go.Proofs.YthmppooefajpgaaDoor
namespace Rows

/-- THE TIED CARD OF 'bolterlaw02.ClassesMembers'. -/
def classesMembersCard : Claim7 := { stood := { row := classesMembersRow, standIns := [], harness := (true, "6c8abec222b485d03a2afa98d2601b8ab2cf78b83b192062c8a4373b147d03ed"), looks := false }, kinds := [], alts := [], laidByText := true, laidKinds := [.data], laidTests := true, laidLooks := .later }
def ClassesMembersCardSaid : Prop := Claim7.holds Tryd.pinned (.plain (OpenSpec.ofChange classesMembersSpec)) classesMembersCard

/-- THE SECOND FORM's CARD OF 'bolterlaw02.ClassesMembers'. -/
def classesMembersUptoCard : Claim7 := { stood := { row := classesMembersUptoRow, standIns := [], harness := (true, "6c8abec222b485d03a2afa98d2601b8ab2cf78b83b192062c8a4373b147d03ed"), looks := false }, kinds := [], alts := [], laidByText := true, laidKinds := [.data], laidTests := true, laidLooks := .later }
def ClassesMembersUptoCardSaid : Prop := Claim7.holds Tryd.pinned (.plain (OpenSpec.upto classesMembersSpec)) classesMembersUptoCard
end Rows
end Go.Proofs.YthmppooefajpgaaDoor
