/-
  DERIVED. GIVEN WITH THE SEED: THE CARDS: each row of YtonelabeflcplaaGreatDoorRows.lean that lists a variable, with what it lists TIED to the program's text (the seventh form; the later family's looks); each row that meets fmt, with fmt's text TOLD by the authors' own Lean function (tested against real Go, not proved from fmt's source: count such statements apart). THE CARD IS WHAT COUNTS. Prove the row's statement (the work); the ties are given (YtonelabeflcplaaGreatDoorTie.lean); close each card by the builder's one call (the guide's Derived/Test/ToyasCard.lean, 'card_holds'). Laid BY PROGRAM, IN A SANDBOX (cutbox-door.mjs). By AI agents, Wed Nov 11 2026. No macro, syntax, notation, axiom, sorry.
-/
import Derived.Test.YtonelabeflcplaaGreatDoorRows
import GoSem.ClaimSeven
namespace Go.Proofs.YtonelabeflcplaaGreatDoor
namespace Rows

/-- THE TIED CARD OF 'hexaplalaw15.CarryOf'. -/
def carryOfCard : Claim7 := { stood := { row := carryOfRow, standIns := [], harness := (true, "d4291d38188990d851b01199e716af5bae0c2512ae10636ae5da9dc75dfe1f9a"), looks := true }, kinds := [], alts := [], laidByText := true, laidKinds := [.data, .data, .data, .data, .sentinel, .sentinel, .pinned], laidTests := true, laidLooks := .later }
def CarryOfCardSaid : Prop := Claim7.holds Tryz.pinned (.plain (OpenSpec.ofChange carryOfSpec)) carryOfCard

/-- THE TIED CARD OF 'hexaplalaw15.CarryAll'. -/
def carryAllCard : Claim7 := { stood := { row := carryAllRow, standIns := [], harness := (true, "d4291d38188990d851b01199e716af5bae0c2512ae10636ae5da9dc75dfe1f9a"), looks := true }, kinds := [], alts := [], laidByText := true, laidKinds := [.data, .data, .data, .data, .sentinel, .sentinel, .pinned], laidTests := true, laidLooks := .later }
def CarryAllCardSaid : Prop := Claim7.holds Tryz.pinned (.plain (OpenSpec.ofChange carryAllSpec)) carryAllCard

/-- THE TIED CARD OF 'hexaplalaw15.CarryWords'. -/
def carryWordsCard : Claim7 := { stood := { row := carryWordsRow, standIns := [], harness := (true, "d4291d38188990d851b01199e716af5bae0c2512ae10636ae5da9dc75dfe1f9a"), looks := true }, kinds := [], alts := [], laidByText := true, laidKinds := [.data, .data, .data, .data, .sentinel, .sentinel, .pinned], laidTests := true, laidLooks := .later }
def CarryWordsCardSaid : Prop := Claim7.holds Tryz.pinned (.plain (OpenSpec.ofChange carryWordsSpec)) carryWordsCard

/-- THE TIED CARD OF 'hexaplalaw15.CarryRows'. -/
def carryRowsCard : Claim7 := { stood := { row := carryRowsRow, standIns := [], harness := (true, "d4291d38188990d851b01199e716af5bae0c2512ae10636ae5da9dc75dfe1f9a"), looks := true }, kinds := [], alts := [], laidByText := true, laidKinds := [.data, .data, .data, .data, .sentinel, .sentinel, .pinned], laidTests := true, laidLooks := .later }
def CarryRowsCardSaid : Prop := Claim7.holds Tryz.pinned (.plain (OpenSpec.ofChange carryRowsSpec)) carryRowsCard

/-- THE SECOND FORM's CARD OF 'hexaplalaw15.CarryOf'. -/
def carryOfUptoCard : Claim7 := { stood := { row := carryOfUptoRow, standIns := [], harness := (true, "d4291d38188990d851b01199e716af5bae0c2512ae10636ae5da9dc75dfe1f9a"), looks := true }, kinds := [], alts := [], laidByText := true, laidKinds := [.data, .data, .data, .data, .sentinel, .sentinel, .pinned], laidTests := true, laidLooks := .later }
def CarryOfUptoCardSaid : Prop := Claim7.holds Tryz.pinned (.plain (OpenSpec.upto carryOfSpec)) carryOfUptoCard

/-- THE SECOND FORM's CARD OF 'hexaplalaw15.CarryAll'. -/
def carryAllUptoCard : Claim7 := { stood := { row := carryAllUptoRow, standIns := [], harness := (true, "d4291d38188990d851b01199e716af5bae0c2512ae10636ae5da9dc75dfe1f9a"), looks := true }, kinds := [], alts := [], laidByText := true, laidKinds := [.data, .data, .data, .data, .sentinel, .sentinel, .pinned], laidTests := true, laidLooks := .later }
def CarryAllUptoCardSaid : Prop := Claim7.holds Tryz.pinned (.plain (OpenSpec.upto carryAllSpec)) carryAllUptoCard

/-- THE SECOND FORM's CARD OF 'hexaplalaw15.CarryWords'. -/
def carryWordsUptoCard : Claim7 := { stood := { row := carryWordsUptoRow, standIns := [], harness := (true, "d4291d38188990d851b01199e716af5bae0c2512ae10636ae5da9dc75dfe1f9a"), looks := true }, kinds := [], alts := [], laidByText := true, laidKinds := [.data, .data, .data, .data, .sentinel, .sentinel, .pinned], laidTests := true, laidLooks := .later }
def CarryWordsUptoCardSaid : Prop := Claim7.holds Tryz.pinned (.plain (OpenSpec.upto carryWordsSpec)) carryWordsUptoCard

/-- THE SECOND FORM's CARD OF 'hexaplalaw15.CarryRows'. -/
def carryRowsUptoCard : Claim7 := { stood := { row := carryRowsUptoRow, standIns := [], harness := (true, "d4291d38188990d851b01199e716af5bae0c2512ae10636ae5da9dc75dfe1f9a"), looks := true }, kinds := [], alts := [], laidByText := true, laidKinds := [.data, .data, .data, .data, .sentinel, .sentinel, .pinned], laidTests := true, laidLooks := .later }
def CarryRowsUptoCardSaid : Prop := Claim7.holds Tryz.pinned (.plain (OpenSpec.upto carryRowsSpec)) carryRowsUptoCard
end Rows
end Go.Proofs.YtonelabeflcplaaGreatDoor
