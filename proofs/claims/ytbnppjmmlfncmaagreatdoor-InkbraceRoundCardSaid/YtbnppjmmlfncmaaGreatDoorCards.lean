/-
  DERIVED. GIVEN WITH THE SEED: THE CARDS: each row of YtbnppjmmlfncmaaGreatDoorRows.lean that lists a variable, with what it lists TIED to the program's text (the seventh form; the later family's looks); each row that meets fmt, with fmt's text TOLD by the authors' own Lean function (tested against real Go, not proved from fmt's source: count such statements apart). THE CARD IS WHAT COUNTS. Prove the row's statement (the work); the ties are given (YtbnppjmmlfncmaaGreatDoorTie.lean); close each card by the builder's one call (the guide's Derived/Test/ToyasCard.lean, 'card_holds'). Laid BY PROGRAM, IN A SANDBOX (cutbox-door.mjs). By AI agents, Wed Nov 11 2026. No macro, syntax, notation, axiom, sorry.
-/
import Derived.Test.YtbnppjmmlfncmaaGreatDoorRows
import GoSem.ClaimSeven
namespace Go.Proofs.YtbnppjmmlfncmaaGreatDoor
namespace Rows

/-- THE TIED CARD OF 'hexaplalaw15.CarryOf'. -/
def carryOfCard : Claim7 := { stood := { row := carryOfRow, standIns := [], harness := (true, "5b657e5139e849ed735ae52a8133c3d79868642e4dbdfb076cbe312eea415cb8"), looks := true }, kinds := [], alts := [], laidByText := true, laidKinds := [.data, .data, .data, .data, .sentinel, .sentinel, .pinned], laidTests := true, laidLooks := .later }
def CarryOfCardSaid : Prop := Claim7.holds Tryz.pinned (.plain (OpenSpec.ofChange carryOfSpec)) carryOfCard

/-- THE TIED CARD OF 'hexaplalaw15.CarryAll'. -/
def carryAllCard : Claim7 := { stood := { row := carryAllRow, standIns := [], harness := (true, "5b657e5139e849ed735ae52a8133c3d79868642e4dbdfb076cbe312eea415cb8"), looks := true }, kinds := [], alts := [], laidByText := true, laidKinds := [.data, .data, .data, .data, .sentinel, .sentinel, .pinned], laidTests := true, laidLooks := .later }
def CarryAllCardSaid : Prop := Claim7.holds Tryz.pinned (.plain (OpenSpec.ofChange carryAllSpec)) carryAllCard

/-- THE TIED CARD OF 'hexaplalaw16.InkbracePrints'. -/
def inkbracePrintsCard : Claim7 := { stood := { row := inkbracePrintsRow, standIns := [], harness := (true, "5b657e5139e849ed735ae52a8133c3d79868642e4dbdfb076cbe312eea415cb8"), looks := true }, kinds := [], alts := [], laidByText := true, laidKinds := [.data, .data, .data, .data, .sentinel, .sentinel, .pinned], laidTests := true, laidLooks := .later }
def InkbracePrintsCardSaid : Prop := Claim7.holds Tryz.pinned (.plain (OpenSpec.ofChange inkbracePrintsSpec)) inkbracePrintsCard

/-- THE TIED CARD OF 'hexaplalaw16.InkbraceRound'. -/
def inkbraceRoundCard : Claim7 := { stood := { row := inkbraceRoundRow, standIns := [], harness := (true, "5b657e5139e849ed735ae52a8133c3d79868642e4dbdfb076cbe312eea415cb8"), looks := true }, kinds := [], alts := [], laidByText := true, laidKinds := [.data, .data, .data, .data, .sentinel, .sentinel, .pinned], laidTests := true, laidLooks := .later }
def InkbraceRoundCardSaid : Prop := Claim7.holds Tryz.pinned (.plain (OpenSpec.ofChange inkbraceRoundSpec)) inkbraceRoundCard

/-- THE TIED CARD OF 'hexaplalaw16.InkbraceApart'. -/
def inkbraceApartCard : Claim7 := { stood := { row := inkbraceApartRow, standIns := [], harness := (true, "5b657e5139e849ed735ae52a8133c3d79868642e4dbdfb076cbe312eea415cb8"), looks := true }, kinds := [], alts := [], laidByText := true, laidKinds := [.data, .data, .data, .data, .sentinel, .sentinel, .pinned], laidTests := true, laidLooks := .later }
def InkbraceApartCardSaid : Prop := Claim7.holds Tryz.pinned (.plain (OpenSpec.ofChange inkbraceApartSpec)) inkbraceApartCard

/-- THE TIED CARD OF 'hexaplalaw16.InkbraceStays'. -/
def inkbraceStaysCard : Claim7 := { stood := { row := inkbraceStaysRow, standIns := [], harness := (true, "5b657e5139e849ed735ae52a8133c3d79868642e4dbdfb076cbe312eea415cb8"), looks := true }, kinds := [], alts := [], laidByText := true, laidKinds := [.data, .data, .data, .data, .sentinel, .sentinel, .pinned], laidTests := true, laidLooks := .later }
def InkbraceStaysCardSaid : Prop := Claim7.holds Tryz.pinned (.plain (OpenSpec.ofChange inkbraceStaysSpec)) inkbraceStaysCard

/-- THE SECOND FORM's CARD OF 'hexaplalaw15.CarryOf'. -/
def carryOfUptoCard : Claim7 := { stood := { row := carryOfUptoRow, standIns := [], harness := (true, "5b657e5139e849ed735ae52a8133c3d79868642e4dbdfb076cbe312eea415cb8"), looks := true }, kinds := [], alts := [], laidByText := true, laidKinds := [.data, .data, .data, .data, .sentinel, .sentinel, .pinned], laidTests := true, laidLooks := .later }
def CarryOfUptoCardSaid : Prop := Claim7.holds Tryz.pinned (.plain (OpenSpec.upto carryOfSpec)) carryOfUptoCard

/-- THE SECOND FORM's CARD OF 'hexaplalaw15.CarryAll'. -/
def carryAllUptoCard : Claim7 := { stood := { row := carryAllUptoRow, standIns := [], harness := (true, "5b657e5139e849ed735ae52a8133c3d79868642e4dbdfb076cbe312eea415cb8"), looks := true }, kinds := [], alts := [], laidByText := true, laidKinds := [.data, .data, .data, .data, .sentinel, .sentinel, .pinned], laidTests := true, laidLooks := .later }
def CarryAllUptoCardSaid : Prop := Claim7.holds Tryz.pinned (.plain (OpenSpec.upto carryAllSpec)) carryAllUptoCard

/-- THE SECOND FORM's CARD OF 'hexaplalaw16.InkbracePrints'. -/
def inkbracePrintsUptoCard : Claim7 := { stood := { row := inkbracePrintsUptoRow, standIns := [], harness := (true, "5b657e5139e849ed735ae52a8133c3d79868642e4dbdfb076cbe312eea415cb8"), looks := true }, kinds := [], alts := [], laidByText := true, laidKinds := [.data, .data, .data, .data, .sentinel, .sentinel, .pinned], laidTests := true, laidLooks := .later }
def InkbracePrintsUptoCardSaid : Prop := Claim7.holds Tryz.pinned (.plain (OpenSpec.upto inkbracePrintsSpec)) inkbracePrintsUptoCard

/-- THE SECOND FORM's CARD OF 'hexaplalaw16.InkbraceRound'. -/
def inkbraceRoundUptoCard : Claim7 := { stood := { row := inkbraceRoundUptoRow, standIns := [], harness := (true, "5b657e5139e849ed735ae52a8133c3d79868642e4dbdfb076cbe312eea415cb8"), looks := true }, kinds := [], alts := [], laidByText := true, laidKinds := [.data, .data, .data, .data, .sentinel, .sentinel, .pinned], laidTests := true, laidLooks := .later }
def InkbraceRoundUptoCardSaid : Prop := Claim7.holds Tryz.pinned (.plain (OpenSpec.upto inkbraceRoundSpec)) inkbraceRoundUptoCard

/-- THE SECOND FORM's CARD OF 'hexaplalaw16.InkbraceApart'. -/
def inkbraceApartUptoCard : Claim7 := { stood := { row := inkbraceApartUptoRow, standIns := [], harness := (true, "5b657e5139e849ed735ae52a8133c3d79868642e4dbdfb076cbe312eea415cb8"), looks := true }, kinds := [], alts := [], laidByText := true, laidKinds := [.data, .data, .data, .data, .sentinel, .sentinel, .pinned], laidTests := true, laidLooks := .later }
def InkbraceApartUptoCardSaid : Prop := Claim7.holds Tryz.pinned (.plain (OpenSpec.upto inkbraceApartSpec)) inkbraceApartUptoCard

/-- THE SECOND FORM's CARD OF 'hexaplalaw16.InkbraceStays'. -/
def inkbraceStaysUptoCard : Claim7 := { stood := { row := inkbraceStaysUptoRow, standIns := [], harness := (true, "5b657e5139e849ed735ae52a8133c3d79868642e4dbdfb076cbe312eea415cb8"), looks := true }, kinds := [], alts := [], laidByText := true, laidKinds := [.data, .data, .data, .data, .sentinel, .sentinel, .pinned], laidTests := true, laidLooks := .later }
def InkbraceStaysUptoCardSaid : Prop := Claim7.holds Tryz.pinned (.plain (OpenSpec.upto inkbraceStaysSpec)) inkbraceStaysUptoCard
end Rows
end Go.Proofs.YtbnppjmmlfncmaaGreatDoor
