/-
  A table for the walks that ask for one: the library's own.
-/
import Derived.Test.YtpefblbgbneojaaGreatRows
import Derived.Test.YtpefblbgbneojaaGreatDlE03
import Derived.Lib.LaidTab
namespace Go.Proofs.YtpefblbgbneojaaGreat
open Go.RowKit
@[reducible] def tab0 : Tab := ⟨Lib.pow10Tab, by unfold okTab; decide +kernel⟩
end Go.Proofs.YtpefblbgbneojaaGreat
