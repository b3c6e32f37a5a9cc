/-
  DERIVED. GIVEN WITH THE SEED: THE CARDS: each row of YtjepnddndpmnnaaGreatDoorRows.lean that lists a variable, with what it lists TIED to the program's text (the seventh form; the later family's looks); each row that meets fmt, with fmt's text TOLD by the authors' own Lean function (tested against real Go, not proved from fmt's source: count such statements apart). THE CARD IS WHAT COUNTS. Prove the row's statement (the work); the ties are given (YtjepnddndpmnnaaGreatDoorTie.lean); close each card by the builder's one call (the guide's Derived/Test/ToyasCard.lean, 'card_holds'). Laid BY PROGRAM, IN A SANDBOX (cutbox-door.mjs). By AI agents, Wed Nov 11 2026. No macro, syntax, notation, axiom, sorry.
-/
import Derived.Test.YtjepnddndpmnnaaGreatDoorRows
import GoSem.ClaimSeven
namespace Go.Proofs.YtjepnddndpmnnaaGreatDoor
namespace Rows

/-- THE TIED CARD OF 'hexaplalaw14.AngleWhole'. -/
def angleWholeCard : Claim7 := { stood := { row := angleWholeRow, standIns := [], harness := (true, "d5e49a8085891696e8fecbaba4ccf02b4112e4e0bfbef7b66e8788fd1645a08f"), looks := true }, kinds := [], alts := [], laidByText := true, laidKinds := [.data, .data, .data, .data, .sentinel, .sentinel, .pinned], laidTests := true, laidLooks := .later }
def AngleWholeCardSaid : Prop := Claim7.holds Tryz.pinned (.plain (OpenSpec.ofChange angleWholeSpec)) angleWholeCard

/-- THE SECOND FORM's CARD OF 'hexaplalaw14.AngleWhole'. -/
def angleWholeUptoCard : Claim7 := { stood := { row := angleWholeUptoRow, standIns := [], harness := (true, "d5e49a8085891696e8fecbaba4ccf02b4112e4e0bfbef7b66e8788fd1645a08f"), looks := true }, kinds := [], alts := [], laidByText := true, laidKinds := [.data, .data, .data, .data, .sentinel, .sentinel, .pinned], laidTests := true, laidLooks := .later }
def AngleWholeUptoCardSaid : Prop := Claim7.holds Tryz.pinned (.plain (OpenSpec.upto angleWholeSpec)) angleWholeUptoCard
end Rows
end Go.Proofs.YtjepnddndpmnnaaGreatDoor
