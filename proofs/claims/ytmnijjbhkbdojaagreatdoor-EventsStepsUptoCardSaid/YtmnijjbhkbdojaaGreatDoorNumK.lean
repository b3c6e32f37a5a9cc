/-
  The reference's parts and May, whole; the walk of NumMay.
-/
import Derived.Test.YtmnijjbhkbdojaaGreatDoorNumJa
import Derived.Test.YtmnijjbhkbdojaaGreatDoorNumJb
import Derived.Test.YtmnijjbhkbdojaaGreatDoorNumF
namespace Go.Proofs.YtmnijjbhkbdojaaGreatDoor.Nm
open Go.RowKit
set_option maxRecDepth 100000

theorem parts_any (s : ByteArray) (w : World) (hs : s.size ≤ 140737488355328) :
    Calls Tryz.prog 59 #[.string s] w fun e w' => e = .returned (partsA (parts s.data.toList)) ∧ ∃ n, w' = w.drewN n := by
  have lenS : s.data.toList.length = s.size := by simp
  by_cases hn : ∃ h : 0 < s.size, s[0].toNat = 45
  · obtain ⟨hpos, hb⟩ := hn
    have h00 : ((s[0].toNat : Int) == 45) = true := by rw [beq_iff_eq]; omega
    have HA : Hid (off s.data.toList = 1) := Lib.hid (off_one (by rw [lenS]; exact hpos) (by rw [b_at s 0 hpos]; exact hb))
    have hle := tw_le (s.data.toList.drop 1)
    rw [List.length_drop, lenS] at hle
    generalize hn : twN (s.data.toList.drop 1) = n at hle
    have HN := Lib.hid hn
    by_cases h1 : 1 + n < s.size ∧ n = 0
    · exact parts_1_bad0 s w hs hpos h00 n HA HN lenS h1.2 h1.1
    · by_cases h2 : 1 < n ∧ ∃ h : 1 < s.size, s[1].toNat = 48
      · obtain ⟨h2, hA, hb⟩ := h2
        exact parts_1_bad1 s w hs hpos h00 n HA HN lenS h2 (by omega) hA (by omega)
      · have h48 : Not48_1 s n := by
          rcases Nat.lt_or_ge 1 n with hh | hh
          · have hA : 1 < s.size := by omega
            exact .inr ⟨hh, hA, by rw [beq_eq_false_iff_ne]; intro hc; exact h2 ⟨hh, hA, by omega⟩⟩
          · exact .inl hh
        by_cases h3 : 1 + n = s.size
        · exact parts_1_end s w hs hpos h00 n HA HN lenS h48 h3
        · exact parts_1_go s w hs hpos h00 n HA HN lenS h48 (by omega) (by omega)
  · have h00 : ∀ h : 0 < s.size, ((s[0].toNat : Int) == 45) = false := fun h => by rw [beq_eq_false_iff_ne]; intro hc; exact hn ⟨h, by omega⟩
    have HA : Hid (off s.data.toList = 0) := Lib.hid (off_zero (fun h => by rw [lenS] at h; rw [b_at s 0 h]; exact fun hc => hn ⟨h, hc⟩))
    have hle := tw_le (s.data.toList.drop 0)
    rw [List.length_drop, lenS] at hle
    generalize hn : twN (s.data.toList.drop 0) = n at hle
    have HN := Lib.hid hn
    by_cases h1 : n < s.size ∧ n = 0
    · exact parts_0_bad0 s w hs h00 n HA HN lenS h1.2 h1.1
    · by_cases h2 : 1 < n ∧ ∃ h : 0 < s.size, s[0].toNat = 48
      · obtain ⟨h2, hA, hb⟩ := h2
        exact parts_0_bad1 s w hs h00 n HA HN lenS h2 (by omega) hA (by omega)
      · have h48 : Not48_0 s n := by
          rcases Nat.lt_or_ge 1 n with hh | hh
          · have hA : 0 < s.size := by omega
            exact .inr ⟨hh, hA, by rw [beq_eq_false_iff_ne]; intro hc; exact h2 ⟨hh, hA, by omega⟩⟩
          · exact .inl hh
        by_cases h3 : n = s.size
        · exact parts_0_end s w hs h00 n HA HN lenS h48 h3
        · exact parts_0_go s w hs h00 n HA HN lenS h48 (by omega) (by omega)

end Go.Proofs.YtmnijjbhkbdojaaGreatDoor.Nm
