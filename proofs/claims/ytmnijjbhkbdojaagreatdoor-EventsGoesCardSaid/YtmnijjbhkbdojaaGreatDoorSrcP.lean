/-
  The contract of src's payload: the bits of a byte that tell of its character.
-/
import Derived.Test.YtmnijjbhkbdojaaGreatDoorSrcA
namespace Go.Proofs.YtmnijjbhkbdojaaGreatDoor
open Go.RowKit

theorem pay_any (b : Int) (h0 : 0 ≤ b) (h1 : b ≤ 255) (w : World) :
    Calls Tryz.prog 57 #[.int .u8 b] w fun e w' => e = .returned (.int .i64 (payI b)) ∧ w = w' := by
  have e6 := u8_and63 b h0 (show b < 256 by omega)
  have e5 := u8_and31 b h0 (show b < 256 by omega)
  have e4 := u8_and15 b h0 (show b < 256 by omega)
  have e3 := u8_and7 b h0 (show b < 256 by omega)
  go_enter Tryz.func57, Tryz.ntmps57
  go_wp2
  all_goals go_ret
  all_goals refine ⟨ret_int ?_, rfl⟩
  all_goals simp only [payI]
  all_goals repeat (first | rw [if_pos (by omega)] | rw [if_neg (by omega)])
end Go.Proofs.YtmnijjbhkbdojaaGreatDoor
