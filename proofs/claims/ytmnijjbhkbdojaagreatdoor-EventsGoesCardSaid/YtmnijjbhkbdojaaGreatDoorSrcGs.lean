/-
  'same' of two lists of whole numbers (hexaplalaw01).
-/
import Derived.Test.YtmnijjbhkbdojaaGreatDoorSrcG
namespace Go.Proofs.YtmnijjbhkbdojaaGreatDoor
open Go.RowKit
set_option maxRecDepth 100000

end Go.Proofs.YtmnijjbhkbdojaaGreatDoor
