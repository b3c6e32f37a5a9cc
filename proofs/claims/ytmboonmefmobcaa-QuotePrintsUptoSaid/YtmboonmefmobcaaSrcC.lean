/-
  The reference's Put: its contract is src's.
-/
import Derived.Test.YtmboonmefmobcaaSrcB
namespace Go.Proofs.Ytmboonmefmobcaa
open Go.RowKit

end Go.Proofs.Ytmboonmefmobcaa
