/-
  The reference's run: its contract.
-/
import Derived.Test.YtmnijjbhkbdojaaGreatDoorNumA
import Derived.Test.YtmnijjbhkbdojaaGreatDoorNumU
import Derived.Lib.Strings
namespace Go.Proofs.YtmnijjbhkbdojaaGreatDoor.Nm
open Go.RowKit
set_option maxRecDepth 100000

set_option maxHeartbeats 1000000 in
theorem run_any (s : ByteArray) (k : Nat) (i : Int) (hi : i = (k : Int)) (w : World) (hk : k ≤ s.size) (hs : s.size ≤ 140737488355328) :
    Calls Tryz.prog 68 #[.string s, .int .i64 i] w fun e w' => e = .returned (.int .i64 (twN (s.data.toList.drop k))) ∧ w = w' := by
  subst hi
  go_enter Tryz.func68, Tryz.ntmps68
  go_wp2
  go_loop [5] (fun n => ∃ m : Nat, n = .int .i64 m ∧ k + m ≤ s.size ∧ Hid (((s.data.toList.drop k).take m).all dig = true)) (fun n => s.size - (k + (intOf n).toNat))
  case atStart => exact ⟨0, rfl, by omega, Lib.hid (by simp)⟩
  case round =>
    obtain ⟨m, rfl, hm, HD⟩ := hrel
    by_cases hlt : k + m < s.size
    · have hidx : (s.data.toList.drop k)[m]? = some s[k + m] := by
        rw [List.getElem?_drop, List.getElem?_eq_getElem (by simpa using hlt)]
        rfl
      cases hd : dig s[k + m]
      · have hfin : twN (s.data.toList.drop k) = m := tw_len (by simp; omega) HD.out (fun b hb => by rw [hidx] at hb; injection hb with hb; rw [← hb]; exact hd)
        have HF := Lib.hid hfin
        rw [dig_not] at hd
        have hcase : (s[k + m].toNat : Int) < 48 ∨ (48 ≤ (s[k + m].toNat : Int) ∧ 57 < (s[k + m].toNat : Int)) := by omega
        clear hidx hfin hd
        rcases hcase with h | ⟨h, h2⟩
        all_goals
          go_wp2
          go_ret
          exact ⟨ret_int (by rw [HF.out]), rfl⟩
      · have hr := dig_range hd
        have h1 : 48 ≤ (s[k + m].toNat : Int) := by omega
        have h2 : (s[k + m].toNat : Int) ≤ 57 := by omega
        have hnew : ((s.data.toList.drop k).take (m + 1)).all dig = true := by
          rw [List.take_add_one, hidx]
          simp only [Option.toList_some, List.all_append, HD.out, List.all_cons, hd]
          rfl
        have HN := Lib.hid hnew
        clear hidx hd hr hnew
        go_wp2
        go_round
        case rel => exact ⟨m + 1, by go_num, by omega, HN⟩
        case measure => simp [intOf]; omega
    · have hfin : twN (s.data.toList.drop k) = m := tw_len (by simp; omega) HD.out (fun b hb => by
        rw [List.getElem?_eq_none (by simp; omega)] at hb; cases hb)
      have HF := Lib.hid hfin
      clear hfin
      go_wp2
      go_ret
      exact ⟨ret_int (by rw [HF.out]), rfl⟩
end Go.Proofs.YtmnijjbhkbdojaaGreatDoor.Nm
