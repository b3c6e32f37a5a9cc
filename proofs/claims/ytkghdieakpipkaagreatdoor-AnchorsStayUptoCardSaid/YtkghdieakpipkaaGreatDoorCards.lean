/-
  DERIVED. GIVEN WITH THE SEED: THE CARDS: each row of YtkghdieakpipkaaGreatDoorRows.lean that lists a variable, with what it lists TIED to the program's text (the seventh form; the later family's looks); each row that meets fmt, with fmt's text TOLD by the authors' own Lean function (tested against real Go, not proved from fmt's source: count such statements apart). THE CARD IS WHAT COUNTS. Prove the row's statement (the work); the ties are given (YtkghdieakpipkaaGreatDoorTie.lean); close each card by the builder's one call (the guide's Derived/Test/ToyasCard.lean, 'card_holds'). Laid BY PROGRAM, IN A SANDBOX (cutbox-door.mjs). By AI agents, Wed Nov 11 2026. No macro, syntax, notation, axiom, sorry.
-/
import Derived.Test.YtkghdieakpipkaaGreatDoorRows
import GoSem.ClaimSeven
namespace Go.Proofs.YtkghdieakpipkaaGreatDoor
namespace Rows

/-- THE TIED CARD OF 'hexaplalaw10.AnchorsPlays'. -/
def anchorsPlaysCard : Claim7 := { stood := { row := anchorsPlaysRow, standIns := [], harness := (true, "5b500dd7a8e6376233930e120639966fee70296f6f3275b01c8c04d24090ecbd"), looks := true }, kinds := [], alts := [], laidByText := true, laidKinds := [.data, .data, .data, .data, .sentinel, .sentinel, .pinned], laidTests := true, laidLooks := .later }
def AnchorsPlaysCardSaid : Prop := Claim7.holds Tryz.pinned (.plain (OpenSpec.ofChange anchorsPlaysSpec)) anchorsPlaysCard

/-- THE TIED CARD OF 'hexaplalaw10.AnchorsKeeps'. -/
def anchorsKeepsCard : Claim7 := { stood := { row := anchorsKeepsRow, standIns := [], harness := (true, "5b500dd7a8e6376233930e120639966fee70296f6f3275b01c8c04d24090ecbd"), looks := true }, kinds := [], alts := [], laidByText := true, laidKinds := [.data, .data, .data, .data, .sentinel, .sentinel, .pinned], laidTests := true, laidLooks := .later }
def AnchorsKeepsCardSaid : Prop := Claim7.holds Tryz.pinned (.plain (OpenSpec.ofChange anchorsKeepsSpec)) anchorsKeepsCard

/-- THE TIED CARD OF 'hexaplalaw10.AnchorsRoom'. -/
def anchorsRoomCard : Claim7 := { stood := { row := anchorsRoomRow, standIns := [], harness := (true, "5b500dd7a8e6376233930e120639966fee70296f6f3275b01c8c04d24090ecbd"), looks := true }, kinds := [], alts := [], laidByText := true, laidKinds := [.data, .data, .data, .data, .sentinel, .sentinel, .pinned], laidTests := true, laidLooks := .later }
def AnchorsRoomCardSaid : Prop := Claim7.holds Tryz.pinned (.plain (OpenSpec.ofChange anchorsRoomSpec)) anchorsRoomCard

/-- THE TIED CARD OF 'hexaplalaw10.AnchorsStay'. -/
def anchorsStayCard : Claim7 := { stood := { row := anchorsStayRow, standIns := [], harness := (true, "5b500dd7a8e6376233930e120639966fee70296f6f3275b01c8c04d24090ecbd"), looks := true }, kinds := [], alts := [], laidByText := true, laidKinds := [.data, .data, .data, .data, .sentinel, .sentinel, .pinned], laidTests := true, laidLooks := .later }
def AnchorsStayCardSaid : Prop := Claim7.holds Tryz.pinned (.plain (OpenSpec.ofChange anchorsStaySpec)) anchorsStayCard

/-- THE SECOND FORM's CARD OF 'hexaplalaw10.AnchorsPlays'. -/
def anchorsPlaysUptoCard : Claim7 := { stood := { row := anchorsPlaysUptoRow, standIns := [], harness := (true, "5b500dd7a8e6376233930e120639966fee70296f6f3275b01c8c04d24090ecbd"), looks := true }, kinds := [], alts := [], laidByText := true, laidKinds := [.data, .data, .data, .data, .sentinel, .sentinel, .pinned], laidTests := true, laidLooks := .later }
def AnchorsPlaysUptoCardSaid : Prop := Claim7.holds Tryz.pinned (.plain (OpenSpec.upto anchorsPlaysSpec)) anchorsPlaysUptoCard

/-- THE SECOND FORM's CARD OF 'hexaplalaw10.AnchorsKeeps'. -/
def anchorsKeepsUptoCard : Claim7 := { stood := { row := anchorsKeepsUptoRow, standIns := [], harness := (true, "5b500dd7a8e6376233930e120639966fee70296f6f3275b01c8c04d24090ecbd"), looks := true }, kinds := [], alts := [], laidByText := true, laidKinds := [.data, .data, .data, .data, .sentinel, .sentinel, .pinned], laidTests := true, laidLooks := .later }
def AnchorsKeepsUptoCardSaid : Prop := Claim7.holds Tryz.pinned (.plain (OpenSpec.upto anchorsKeepsSpec)) anchorsKeepsUptoCard

/-- THE SECOND FORM's CARD OF 'hexaplalaw10.AnchorsRoom'. -/
def anchorsRoomUptoCard : Claim7 := { stood := { row := anchorsRoomUptoRow, standIns := [], harness := (true, "5b500dd7a8e6376233930e120639966fee70296f6f3275b01c8c04d24090ecbd"), looks := true }, kinds := [], alts := [], laidByText := true, laidKinds := [.data, .data, .data, .data, .sentinel, .sentinel, .pinned], laidTests := true, laidLooks := .later }
def AnchorsRoomUptoCardSaid : Prop := Claim7.holds Tryz.pinned (.plain (OpenSpec.upto anchorsRoomSpec)) anchorsRoomUptoCard

/-- THE SECOND FORM's CARD OF 'hexaplalaw10.AnchorsStay'. -/
def anchorsStayUptoCard : Claim7 := { stood := { row := anchorsStayUptoRow, standIns := [], harness := (true, "5b500dd7a8e6376233930e120639966fee70296f6f3275b01c8c04d24090ecbd"), looks := true }, kinds := [], alts := [], laidByText := true, laidKinds := [.data, .data, .data, .data, .sentinel, .sentinel, .pinned], laidTests := true, laidLooks := .later }
def AnchorsStayUptoCardSaid : Prop := Claim7.holds Tryz.pinned (.plain (OpenSpec.upto anchorsStaySpec)) anchorsStayUptoCard
end Rows
end Go.Proofs.YtkghdieakpipkaaGreatDoor
