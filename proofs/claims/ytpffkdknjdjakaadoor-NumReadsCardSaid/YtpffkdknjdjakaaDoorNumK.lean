/-
  The reference's parts and May, whole; the walk of NumMay.
-/
import Derived.Test.YtpffkdknjdjakaaDoorNumJa
import Derived.Test.YtpffkdknjdjakaaDoorNumJb
import Derived.Test.YtpffkdknjdjakaaDoorNumF
namespace Go.Proofs.YtpffkdknjdjakaaDoor
open Go.RowKit
set_option maxRecDepth 100000

theorem parts_any (s : ByteArray) (w : World) (hs : s.size ≤ 140737488355328) :
    Calls Tryd.prog 18 #[.string s] w fun e w' => e = .returned (partsA (parts s.data.toList)) ∧ ∃ n, w' = w.drewN n := by
  have lenS : s.data.toList.length = s.size := by simp
  by_cases hn : ∃ h : 0 < s.size, s[0].toNat = 45
  · obtain ⟨hpos, hb⟩ := hn
    have h00 : ((s[0].toNat : Int) == 45) = true := by rw [beq_iff_eq]; omega
    have HA : Hid (off s.data.toList = 1) := Lib.hid (off_one (by rw [lenS]; exact hpos) (by rw [b_at s 0 hpos]; exact hb))
    have hle := tw_le (s.data.toList.drop 1)
    rw [List.length_drop, lenS] at hle
    generalize hn : twN (s.data.toList.drop 1) = n at hle
    have HN := Lib.hid hn
    by_cases h1 : 1 + n < s.size ∧ n = 0
    · exact parts_1_bad0 s w hs hpos h00 n HA HN lenS h1.2 h1.1
    · by_cases h2 : 1 < n ∧ ∃ h : 1 < s.size, s[1].toNat = 48
      · obtain ⟨h2, hA, hb⟩ := h2
        exact parts_1_bad1 s w hs hpos h00 n HA HN lenS h2 (by omega) hA (by omega)
      · have h48 : Not48_1 s n := by
          rcases Nat.lt_or_ge 1 n with hh | hh
          · have hA : 1 < s.size := by omega
            exact .inr ⟨hh, hA, by rw [beq_eq_false_iff_ne]; intro hc; exact h2 ⟨hh, hA, by omega⟩⟩
          · exact .inl hh
        by_cases h3 : 1 + n = s.size
        · exact parts_1_end s w hs hpos h00 n HA HN lenS h48 h3
        · exact parts_1_go s w hs hpos h00 n HA HN lenS h48 (by omega) (by omega)
  · have h00 : ∀ h : 0 < s.size, ((s[0].toNat : Int) == 45) = false := fun h => by rw [beq_eq_false_iff_ne]; intro hc; exact hn ⟨h, by omega⟩
    have HA : Hid (off s.data.toList = 0) := Lib.hid (off_zero (fun h => by rw [lenS] at h; rw [b_at s 0 h]; exact fun hc => hn ⟨h, hc⟩))
    have hle := tw_le (s.data.toList.drop 0)
    rw [List.length_drop, lenS] at hle
    generalize hn : twN (s.data.toList.drop 0) = n at hle
    have HN := Lib.hid hn
    by_cases h1 : n < s.size ∧ n = 0
    · exact parts_0_bad0 s w hs h00 n HA HN lenS h1.2 h1.1
    · by_cases h2 : 1 < n ∧ ∃ h : 0 < s.size, s[0].toNat = 48
      · obtain ⟨h2, hA, hb⟩ := h2
        exact parts_0_bad1 s w hs h00 n HA HN lenS h2 (by omega) hA (by omega)
      · have h48 : Not48_0 s n := by
          rcases Nat.lt_or_ge 1 n with hh | hh
          · have hA : 0 < s.size := by omega
            exact .inr ⟨hh, hA, by rw [beq_eq_false_iff_ne]; intro hc; exact h2 ⟨hh, hA, by omega⟩⟩
          · exact .inl hh
        by_cases h3 : n = s.size
        · exact parts_0_end s w hs h00 n HA HN lenS h48 h3
        · exact parts_0_go s w hs h00 n HA HN lenS h48 (by omega) (by omega)

theorem rmay_any (s : ByteArray) (w : World) (hs : s.size ≤ 140737488355328) :
    Calls Tryd.prog 10 #[.string s] w fun e w' => e = .returned (.tuple #[.bool (begB s.data.toList), .bool (isB s.data.toList)]) ∧ ∃ n, w' = w.drewN n := by
  have hp := parts_any s
  unfold partsA at hp
  rw [parts_begins, parts_is] at hp
  have HP := Lib.hid hp
  clear hp
  go_enter Tryd.func10, Tryd.ntmps10
  go_wp2_with (fail)
  refine (HP.out _ hs).mono ?_
  rintro e w1 ⟨rfl, n, rfl⟩
  go_wp2
  go_ret2
  exact ⟨rfl, n, rfl⟩

set_option maxHeartbeats 400000 in
theorem walk_NumMay (s : ByteArray) (hs : s.size ≤ 140737488355328) (w : World) (hw : StdW w) :
    Calls Tryd.prog 3 #[.string s] w fun e w' => e = .returned (.bool true) ∧ Below w.heap.size w w' := by
  go_enter Tryd.func3, Tryd.ntmps3
  go_wp2_with (fail)
  refine (may_any s _ (by omega)).mono ?_
  rintro e w1 ⟨rfl, rfl⟩
  go_wp2_with (fail)
  refine (rmay_any s _ hs).mono ?_
  rintro e w2 ⟨rfl, n, rfl⟩
  generalize begB s.data.toList = B
  generalize isB s.data.toList = I
  cases B
  all_goals
    cases I
    all_goals
      go_wp2_with (go_at_call 11; refine (lives_any _ (hw.drewN n)).mono ?_; rintro e w2 ⟨rfl, hb2⟩)
      go_ret
      exact ⟨rfl, (below_drewN (Below.refl _ _) n).trans (hb2.mono (by simp))⟩
end Go.Proofs.YtpffkdknjdjakaaDoor
