/-
  names: Space, Cut and Join of the program.
-/
import Derived.Test.YtmbjeagmnjkemaaNamesA
import Derived.Test.YtmbjeagmnjkemaaUtf
import Derived.Test.YtmbjeagmnjkemaaShelf
namespace Go.Proofs.Ytmbjeagmnjkemaa
open Go.RowKit Go.Maps
set_option maxRecDepth 100000

theorem space_long (s : ByteArray) (h : s.size = 0 ∨ 48 < s.size) : spaceL s.data.toList = false := by
  have hl : s.data.toList.length = s.size := by simp
  cases hb : spaceL s.data.toList with
  | false => rfl
  | true => have := space_len hb; omega
theorem space_eq (s : ByteArray) (h : 0 < s.size) (h48 : s.size ≤ 48) : spaceL s.data.toList = ((runesL s.data.toList).isSome && s.data.toList.all (fun d => !badB (d.toNat : Int))) := by
  have hl : s.data.toList.length = s.size := by simp
  unfold spaceL
  rw [decide_eq_true (show 1 ≤ s.data.toList.length ∧ s.data.toList.length ≤ 48 by omega), Bool.and_true]

theorem clone_any (s : ByteArray) (w : World) (hm : s.size ≤ 140737488355328) :
    Calls Try.prog 27 #[.string s] w fun e w' => e = .returned (.string s) ∧ Below w.heap.size w w' := by
  go_enter Try.func27, Try.ntmps27
  go_wp2_with (go_at_call 39; refine (Try.stringslite_Clone s w (by omega)).mono ?_; rintro e w' ⟨rfl, hb⟩)
  go_ret
  exact ⟨rfl, hb⟩
end Go.Proofs.Ytmbjeagmnjkemaa
