/-
  DERIVED. GIVEN WITH THE SEED: THE CARDS: each row of YtmimadkepflmlaaGreatDoorRows.lean that lists a variable, with what it lists TIED to the program's text (the seventh form; the later family's looks); each row that meets fmt, with fmt's text TOLD by the authors' own Lean function (tested against real Go, not proved from fmt's source: count such statements apart). THE CARD IS WHAT COUNTS. Prove the row's statement (the work); the ties are given (YtmimadkepflmlaaGreatDoorTie.lean); close each card by the builder's one call (the guide's Derived/Test/ToyasCard.lean, 'card_holds'). Laid BY PROGRAM, IN A SANDBOX (cutbox-door.mjs). By AI agents, Wed Nov 11 2026. No macro, syntax, notation, axiom, sorry.
-/
import Derived.Test.YtmimadkepflmlaaGreatDoorRows
import GoSem.ClaimSeven
namespace Go.Proofs.YtmimadkepflmlaaGreatDoor
namespace Rows

/-- THE TIED CARD OF 'hexaplalaw07.BraceWhole'. -/
def braceWholeCard : Claim7 := { stood := { row := braceWholeRow, standIns := [], harness := (true, "1132bc55e6b0c1582d02948f05f8513f6a03c5763c66315bd9737fe52f32ab2a"), looks := true }, kinds := [], alts := [], laidByText := true, laidKinds := [.data, .data, .data, .data, .sentinel, .sentinel, .pinned], laidTests := true, laidLooks := .later }
def BraceWholeCardSaid : Prop := Claim7.holds Tryz.pinned (.plain (OpenSpec.ofChange braceWholeSpec)) braceWholeCard

/-- THE TIED CARD OF 'hexaplalaw08.ParenWhole'. -/
def parenWholeCard : Claim7 := { stood := { row := parenWholeRow, standIns := [], harness := (true, "1132bc55e6b0c1582d02948f05f8513f6a03c5763c66315bd9737fe52f32ab2a"), looks := true }, kinds := [], alts := [], laidByText := true, laidKinds := [.data, .data, .data, .data, .sentinel, .sentinel, .pinned], laidTests := true, laidLooks := .later }
def ParenWholeCardSaid : Prop := Claim7.holds Tryz.pinned (.plain (OpenSpec.ofChange parenWholeSpec)) parenWholeCard

/-- THE SECOND FORM's CARD OF 'hexaplalaw07.BraceWhole'. -/
def braceWholeUptoCard : Claim7 := { stood := { row := braceWholeUptoRow, standIns := [], harness := (true, "1132bc55e6b0c1582d02948f05f8513f6a03c5763c66315bd9737fe52f32ab2a"), looks := true }, kinds := [], alts := [], laidByText := true, laidKinds := [.data, .data, .data, .data, .sentinel, .sentinel, .pinned], laidTests := true, laidLooks := .later }
def BraceWholeUptoCardSaid : Prop := Claim7.holds Tryz.pinned (.plain (OpenSpec.upto braceWholeSpec)) braceWholeUptoCard

/-- THE SECOND FORM's CARD OF 'hexaplalaw08.ParenWhole'. -/
def parenWholeUptoCard : Claim7 := { stood := { row := parenWholeUptoRow, standIns := [], harness := (true, "1132bc55e6b0c1582d02948f05f8513f6a03c5763c66315bd9737fe52f32ab2a"), looks := true }, kinds := [], alts := [], laidByText := true, laidKinds := [.data, .data, .data, .data, .sentinel, .sentinel, .pinned], laidTests := true, laidLooks := .later }
def ParenWholeUptoCardSaid : Prop := Claim7.holds Tryz.pinned (.plain (OpenSpec.upto parenWholeSpec)) parenWholeUptoCard
end Rows
end Go.Proofs.YtmimadkepflmlaaGreatDoor
