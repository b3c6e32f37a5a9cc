/-
  DERIVED. GIVEN WITH THE SEED: THE CARDS: each row of YthhhmgkkklopfaaGreatDoorRows.lean that lists a variable, with what it lists TIED to the program's text (the seventh form; the later family's looks); each row that meets fmt, with fmt's text TOLD by the authors' own Lean function (tested against real Go, not proved from fmt's source: count such statements apart). THE CARD IS WHAT COUNTS. Prove the row's statement (the work); the ties are given (YthhhmgkkklopfaaGreatDoorTie.lean); close each card by the builder's one call (the guide's Derived/Test/ToyasCard.lean, 'card_holds'). Laid BY PROGRAM, IN A SANDBOX (cutbox-door.mjs). By AI agents, Wed Nov 11 2026. No macro, syntax, notation, axiom, sorry.
-/
import Derived.Test.YthhhmgkkklopfaaGreatDoorRows
import GoSem.ClaimSeven
namespace Go.Proofs.YthhhmgkkklopfaaGreatDoor
namespace Rows

/-- THE TIED CARD OF 'hexaplalaw07.BraceWhole'. -/
def braceWholeCard : Claim7 := { stood := { row := braceWholeRow, standIns := [], harness := (true, "4cd6761b2461e63f882494bd5a552af737091f3e8bb83055faad751e6d8afec6"), looks := true }, kinds := [], alts := [], laidByText := true, laidKinds := [.data, .data, .data, .data, .sentinel, .sentinel, .pinned], laidTests := true, laidLooks := .later }
def BraceWholeCardSaid : Prop := Claim7.holds Tryz.pinned (.plain (OpenSpec.ofChange braceWholeSpec)) braceWholeCard

/-- THE SECOND FORM's CARD OF 'hexaplalaw07.BraceWhole'. -/
def braceWholeUptoCard : Claim7 := { stood := { row := braceWholeUptoRow, standIns := [], harness := (true, "4cd6761b2461e63f882494bd5a552af737091f3e8bb83055faad751e6d8afec6"), looks := true }, kinds := [], alts := [], laidByText := true, laidKinds := [.data, .data, .data, .data, .sentinel, .sentinel, .pinned], laidTests := true, laidLooks := .later }
def BraceWholeUptoCardSaid : Prop := Claim7.holds Tryz.pinned (.plain (OpenSpec.upto braceWholeSpec)) braceWholeUptoCard
end Rows
end Go.Proofs.YthhhmgkkklopfaaGreatDoor
