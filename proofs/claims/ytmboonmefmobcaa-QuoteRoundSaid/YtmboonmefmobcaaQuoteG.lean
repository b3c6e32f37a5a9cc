/-
  Whether a text has characters: now utf.Whole.
-/
import Derived.Test.YtmboonmefmobcaaQuoteF
import Derived.Test.YtmboonmefmobcaaUtW
namespace Go.Proofs.Ytmboonmefmobcaa
open Go.RowKit Go.Maps
set_option maxRecDepth 100000

theorem isutf_any (s : ByteArray) (w : World) (hm : s.size ≤ 140737488355328) :
    Calls Try.prog 10 #[.string s] w fun e w' => e = .returned (.bool (runesL s.data.toList).isSome) ∧ Below w.heap.size w w' :=
  whole_utf s w hm
end Go.Proofs.Ytmboonmefmobcaa
