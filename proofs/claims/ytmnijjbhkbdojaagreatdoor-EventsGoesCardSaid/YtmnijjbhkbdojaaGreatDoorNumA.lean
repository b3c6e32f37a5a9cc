/-
  Contracts of num's machine: digit, step, complete, May.
-/
import Derived.Test.YtmnijjbhkbdojaaGreatDoorChecked
import Derived.Test.YtmnijjbhkbdojaaGreatDoorNumP
import Derived.WalkKit
import Derived.WalkSpells
import Derived.WalkLawsBesides
import Derived.Lib.Hide
namespace Go.Proofs.YtmnijjbhkbdojaaGreatDoor.Nm
open Go.RowKit

theorem ret_bool {a b : Bool} (h : a = b) : Ending.returned (.bool a) = .returned (.bool b) := by rw [h]
theorem ret_int {k : IntKind} {a b : Int} (h : a = b) : Ending.returned (.int k a) = .returned (.int k b) := by rw [h]

theorem digit_any (a : Int) (w : World) :
    Calls Tryz.prog 82 #[.int .i64 a] w fun e w' => e = .returned (.int .i64 (dgI a)) ∧ w = w' := by
  go_enter Tryz.func82, Tryz.ntmps82
  go_wp2
  all_goals go_ret
  all_goals refine ⟨ret_int ?_, rfl⟩
  all_goals unfold dgI
  all_goals repeat' split
  all_goals first | rfl | (exfalso; simp_all; done) | (exfalso; simp_all; omega) 

theorem compl_any (a : Int) (w : World) :
    Calls Tryz.prog 74 #[.int .i64 a] w fun e w' => e = .returned (.bool (compB a)) ∧ w = w' := by
  go_enter Tryz.func74, Tryz.ntmps74
  go_wp2
  all_goals go_ret
  all_goals refine ⟨ret_bool ?_, rfl⟩
  all_goals unfold compB
  all_goals first | (refine (decide_eq_true ?_).symm; simp_all; done) | (refine (decide_eq_false ?_).symm; simp_all; done)

set_option maxHeartbeats 2000000 in
theorem step_any (a b : Int) (w : World) :
    Calls Tryz.prog 73 #[.int .i64 a, .int .u8 b] w fun e w' => e = .returned (.int .i64 (stepI a b)) ∧ w = w' := by
  go_enter Tryz.func73, Tryz.ntmps73
  go_wp2_with (go_at_call 82; refine (digit_any _ _).mono ?_; rintro e w' ⟨rfl, rfl⟩)
  all_goals go_ret
  all_goals refine ⟨ret_int ?_, rfl⟩
  all_goals simp only [beq_iff_eq, beq_eq_false_iff_ne, ne_eq] at *
  all_goals unfold stepI
  all_goals repeat' split
  all_goals first | rfl | omega

theorem stepI_rng (a b : Int) : 0 ≤ stepI a b ∧ stepI a b ≤ 9 := by
  unfold stepI dgI
  repeat' split
  all_goals omega

/-- May: the machine over the whole text; it stops where nothing can follow. -/
theorem may_any (s : ByteArray) (w : World) (hm : s.size ≤ 9223372036854775807) :
    Calls Tryz.prog 63 #[.string s] w fun e w' => e = .returned (.tuple #[.bool (begB s.data.toList), .bool (isB s.data.toList)]) ∧ w = w' := by
  go_enter Tryz.func63, Tryz.ntmps63
  go_wp2
  go_loop [4, 5] (fun a i => ∃ k : Nat, k ≤ s.size ∧ i = .int .i64 k ∧ a = .int .i64 (mst 1 (s.data.toList.take k))) (fun _ i => s.size - (intOf i).toNat)
  case atStart => exact ⟨0, Nat.zero_le _, rfl, rfl⟩
  case round =>
    obtain ⟨k, hk, rfl, rfl⟩ := hrel
    generalize hM : mst 1 (s.data.toList.take k) = M
    have HM := Lib.hid hM
    clear hM
    by_cases hlt : k < s.size
    · by_cases h0 : M = 0
      · have hb : (M != 0) = false := by simp [h0]
        have hfin : mst 1 s.data.toList = 0 := by
          rw [← List.take_append_drop k s.data.toList, mst_append, HM.out, h0, mst_0]
        have HF := Lib.hid hfin
        have H0 := Lib.hid h0
        clear hfin h0
        go_wp2_with (first | (go_at_call 74; refine (compl_any _ _).mono ?_; rintro e w' ⟨rfl, rfl⟩))
        go_ret2
        refine ⟨?_, rfl⟩
        unfold begB isB
        rw [HF.out, H0.out]
        rfl
      · have hb : (M != 0) = true := by simpa using h0
        have hts : mst 1 (s.data.toList.take (k + 1)) = stepI M (s[k].toNat : Int) := by
          rw [List.take_succ_eq_append_getElem (by simpa using hlt), mst_snoc, HM.out]
          rfl
        have HT := Lib.hid hts
        clear hts h0
        go_wp2_with (first | (go_at_call 73; refine (step_any _ _ _).mono ?_; rintro e w' ⟨rfl, rfl⟩))
        go_round
        case rel => exact ⟨k + 1, by omega, by go_num, by rw [HT.out]⟩
        case measure => simp [intOf]; omega
    · have hfin : begB s.data.toList = (M != 0) ∧ isB s.data.toList = compB M := by
        have h1 : mst 1 s.data.toList = M := by rw [← HM.out, List.take_of_length_le (by simp; omega)]
        unfold begB isB
        rw [h1]
        exact ⟨by rw [Bool.eq_iff_iff]; simp, rfl⟩
      have HF := Lib.hid hfin
      clear hfin
      go_wp2_with (first | (go_at_call 74; refine (compl_any _ _).mono ?_; rintro e w' ⟨rfl, rfl⟩))
      all_goals go_ret2
      all_goals refine ⟨?_, rfl⟩
      all_goals rw [HF.out.1, HF.out.2]
      all_goals rfl
end Go.Proofs.YtmnijjbhkbdojaaGreatDoor.Nm
