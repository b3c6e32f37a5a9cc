/-
  The walks of QuoteSteps, QuotePrints and QuoteGrows.
-/
import Derived.Test.YtmboonmefmobcaaQuoteM
import Derived.Test.YtmboonmefmobcaaQuoteK
import Derived.Test.YtmboonmefmobcaaQuoteL
namespace Go.Proofs.Ytmboonmefmobcaa
open Go.RowKit Go.Maps
set_option maxRecDepth 100000

theorem walk_QuotePrints (s : ByteArray) (hs : s.size ≤ 1048576) (w : World) :
    Calls Try.prog 3 #[.string s] w fun e w' => e = .returned (.bool true) ∧ Below w.heap.size w w' := by
  go_enter Try.func3, Try.ntmps3
  go_wp2_with fail
  refine (print_any s _ (by omega)).mono ?_
  rintro e w1 ⟨rfl, hb1⟩
  unfold PrintEnd
  generalize hX : (ByteArray.mk (prText s.data.toList).toArray) = X
  generalize hE : prErr s.data.toList = E
  have HX := Lib.hid hX
  have HE := Lib.hid hE
  clear hX hE
  go_wp2_with fail
  refine (rprint_any s _ (by omega)).mono ?_
  rintro e w2 ⟨rfl, hb2⟩
  unfold PrintEnd
  rw [HX.out, HE.out]
  have hb := hb1.trans (hb2.mono hb1.size)
  have hsz := hb.size
  go_wp2_with (first
    | (go_at_call 8; refine (lives_any _).mono ?_; rintro e w3 ⟨rfl, hb3⟩))
  go_ret
  exact ⟨rfl, hb.trans (hb3.mono hsz)⟩
end Go.Proofs.Ytmboonmefmobcaa
