/-
  Contracts of the small functions of src and of its reference: pure computations on numbers.
-/
import Derived.Test.YtmboonmefmobcaaChecked
import Derived.Test.YtmboonmefmobcaaRow
import Derived.Test.YtmboonmefmobcaaU8
import Derived.WalkKit
import Derived.WalkSpells
import Derived.WalkLawsBesides
import Derived.Lib.Hide
namespace Go.Proofs.Ytmboonmefmobcaa
open Go.RowKit

theorem ret_bool {a b : Bool} (h : a = b) : Ending.returned (.bool a) = .returned (.bool b) := by rw [h]
theorem ret_int {k : IntKind} {a b : Int} (h : a = b) : Ending.returned (.int k a) = .returned (.int k b) := by rw [h]

theorem may_any (r : Int) (w : World) :
    Calls Try.prog 28 #[.int .i64 r] w fun e w' => e = .returned (.bool (mayB r)) ∧ w = w' := by
  go_enter Try.func28, Try.ntmps28
  go_wp2
  all_goals go_ret
  all_goals refine ⟨ret_bool ?_, rfl⟩
  all_goals simp only [mayB]
  all_goals (rw [Bool.eq_iff_iff]; simp; try omega)

theorem isch_any (r : Int) (w : World) :
    Calls Try.prog 30 #[.int .i64 r] w fun e w' => e = .returned (.bool (mayB r)) ∧ w = w' := by
  go_enter Try.func30, Try.ntmps30
  go_wp2
  all_goals go_ret
  all_goals refine ⟨ret_bool ?_, rfl⟩
  all_goals simp only [mayB]
  all_goals (rw [Bool.eq_iff_iff]; simp; try omega)

theorem long_any (r : Int) (w : World) :
    Calls Try.prog 29 #[.int .i64 r] w fun e w' => e = .returned (.int .i64 (longI r)) ∧ w = w' := by
  go_enter Try.func29, Try.ntmps29
  go_wp2
  all_goals go_ret
  all_goals refine ⟨ret_int ?_, rfl⟩
  all_goals simp only [longI]
  all_goals repeat (first | rw [if_pos (by omega)] | rw [if_neg (by omega)])

theorem i64_and63 (r : Int) (h0 : 0 ≤ r) (h1 : r < 9223372036854775808) : bits .and .i64 r 63 = r % 64 :=
  bits_mask .i64 63 (by decide) (fun n a b => by rw [IntKind.wrap_i64]; omega) 6 (by decide) r h0 h1

theorem tail_any (r : Int) (h0 : 0 ≤ r) (h1 : r ≤ 1114111) (w : World) :
    Calls Try.prog 31 #[.int .i64 r] w fun e w' => e = .returned (.int .u8 (128 + r % 64)) ∧ w = w' := by
  have e6 := i64_and63 r h0 (by omega)
  have e7 : r % 64 % 256 = r % 64 := by omega
  have e8 := u8_or128 (r % 64) (by omega) (by omega)
  go_enter Try.func31, Try.ntmps31
  go_wp2
  all_goals go_ret
  exact ⟨rfl, rfl⟩

theorem Try.info5 : (Try.prog.info? 5).map (fun i => (i.zero, i.size, i.bytes)) = some (some (.int .u8 0), 1, 1) := by kernel_rfl
theorem Try.info3 : (Try.prog.info? 3).map (fun i => (i.zero, i.size, i.bytes)) = some (some (.int .i64 0), 1, 8) := by kernel_rfl
end Go.Proofs.Ytmboonmefmobcaa
