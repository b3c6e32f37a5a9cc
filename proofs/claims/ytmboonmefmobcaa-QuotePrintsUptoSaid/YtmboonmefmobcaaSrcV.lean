/-
  The reference's Valid (hexaplaref01): whether a text has characters.
-/
import Derived.Test.YtmboonmefmobcaaSrcG
namespace Go.Proofs.Ytmboonmefmobcaa
open Go.RowKit
set_option maxRecDepth 100000

theorem valid_any (s : ByteArray) (w : World) (hm : s.size ≤ 1099511627776) :
    Calls Try.prog 12 #[.string s] w fun e w' => e = .returned (.bool (runesL s.data.toList).isSome) ∧ Below w.heap.size w w' := by
  go_enter Try.func12, Try.ntmps12
  go_wp2_with (first
    | (go_at_call 19; refine (rrunes_any s _ hm).mono ?_; rintro e w1 ⟨v, rfl, _, hb1⟩))
  go_ret
  exact ⟨rfl, hb1⟩

end Go.Proofs.Ytmboonmefmobcaa
