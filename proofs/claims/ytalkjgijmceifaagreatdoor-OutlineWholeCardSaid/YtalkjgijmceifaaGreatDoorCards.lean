/-
  DERIVED. GIVEN WITH THE SEED: THE CARDS: each row of YtalkjgijmceifaaGreatDoorRows.lean that lists a variable, with what it lists TIED to the program's text (the seventh form; the later family's looks); each row that meets fmt, with fmt's text TOLD by the authors' own Lean function (tested against real Go, not proved from fmt's source: count such statements apart). THE CARD IS WHAT COUNTS. Prove the row's statement (the work); the ties are given (YtalkjgijmceifaaGreatDoorTie.lean); close each card by the builder's one call (the guide's Derived/Test/ToyasCard.lean, 'card_holds'). Laid BY PROGRAM, IN A SANDBOX (cutbox-door.mjs). By AI agents, Wed Nov 11 2026. No macro, syntax, notation, axiom, sorry.
-/
import Derived.Test.YtalkjgijmceifaaGreatDoorRows
import GoSem.ClaimSeven
namespace Go.Proofs.YtalkjgijmceifaaGreatDoor
namespace Rows

/-- THE TIED CARD OF 'hexaplalaw09.DelimWhole'. -/
def delimWholeCard : Claim7 := { stood := { row := delimWholeRow, standIns := [], harness := (true, "f4f4fe924e73d2b216c4bd2174395f41578447e5beee5b80252041b8c0487ef9"), looks := true }, kinds := [], alts := [], laidByText := true, laidKinds := [.data, .data, .data, .data, .sentinel, .sentinel, .pinned], laidTests := true, laidLooks := .later }
def DelimWholeCardSaid : Prop := Claim7.holds Tryz.pinned (.plain (OpenSpec.ofChange delimWholeSpec)) delimWholeCard

/-- THE TIED CARD OF 'hexaplalaw11.OutlineWhole'. -/
def outlineWholeCard : Claim7 := { stood := { row := outlineWholeRow, standIns := [], harness := (true, "f4f4fe924e73d2b216c4bd2174395f41578447e5beee5b80252041b8c0487ef9"), looks := true }, kinds := [], alts := [], laidByText := true, laidKinds := [.data, .data, .data, .data, .sentinel, .sentinel, .pinned], laidTests := true, laidLooks := .later }
def OutlineWholeCardSaid : Prop := Claim7.holds Tryz.pinned (.plain (OpenSpec.ofChange outlineWholeSpec)) outlineWholeCard

/-- THE TIED CARD OF 'hexaplalaw12.SectionsWhole'. -/
def sectionsWholeCard : Claim7 := { stood := { row := sectionsWholeRow, standIns := [], harness := (true, "f4f4fe924e73d2b216c4bd2174395f41578447e5beee5b80252041b8c0487ef9"), looks := true }, kinds := [], alts := [], laidByText := true, laidKinds := [.data, .data, .data, .data, .sentinel, .sentinel, .pinned], laidTests := true, laidLooks := .later }
def SectionsWholeCardSaid : Prop := Claim7.holds Tryz.pinned (.plain (OpenSpec.ofChange sectionsWholeSpec)) sectionsWholeCard

/-- THE SECOND FORM's CARD OF 'hexaplalaw09.DelimWhole'. -/
def delimWholeUptoCard : Claim7 := { stood := { row := delimWholeUptoRow, standIns := [], harness := (true, "f4f4fe924e73d2b216c4bd2174395f41578447e5beee5b80252041b8c0487ef9"), looks := true }, kinds := [], alts := [], laidByText := true, laidKinds := [.data, .data, .data, .data, .sentinel, .sentinel, .pinned], laidTests := true, laidLooks := .later }
def DelimWholeUptoCardSaid : Prop := Claim7.holds Tryz.pinned (.plain (OpenSpec.upto delimWholeSpec)) delimWholeUptoCard

/-- THE SECOND FORM's CARD OF 'hexaplalaw11.OutlineWhole'. -/
def outlineWholeUptoCard : Claim7 := { stood := { row := outlineWholeUptoRow, standIns := [], harness := (true, "f4f4fe924e73d2b216c4bd2174395f41578447e5beee5b80252041b8c0487ef9"), looks := true }, kinds := [], alts := [], laidByText := true, laidKinds := [.data, .data, .data, .data, .sentinel, .sentinel, .pinned], laidTests := true, laidLooks := .later }
def OutlineWholeUptoCardSaid : Prop := Claim7.holds Tryz.pinned (.plain (OpenSpec.upto outlineWholeSpec)) outlineWholeUptoCard

/-- THE SECOND FORM's CARD OF 'hexaplalaw12.SectionsWhole'. -/
def sectionsWholeUptoCard : Claim7 := { stood := { row := sectionsWholeUptoRow, standIns := [], harness := (true, "f4f4fe924e73d2b216c4bd2174395f41578447e5beee5b80252041b8c0487ef9"), looks := true }, kinds := [], alts := [], laidByText := true, laidKinds := [.data, .data, .data, .data, .sentinel, .sentinel, .pinned], laidTests := true, laidLooks := .later }
def SectionsWholeUptoCardSaid : Prop := Claim7.holds Tryz.pinned (.plain (OpenSpec.upto sectionsWholeSpec)) sectionsWholeUptoCard
end Rows
end Go.Proofs.YtalkjgijmceifaaGreatDoor
