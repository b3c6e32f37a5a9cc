/-
  utf.Whole tells whether a text has characters.
-/
import Derived.Test.YtmboonmefmobcaaSrcD
import Derived.Test.YtmboonmefmobcaaUtf
import Derived.Test.YtmboonmefmobcaaRead
namespace Go.Proofs.Ytmboonmefmobcaa
open Go.RowKit Go.Maps
set_option maxRecDepth 100000

set_option maxHeartbeats 1000000 in
theorem whole_utf (s : ByteArray) (w : World) (hm : s.size ≤ 140737488355328) :
    Calls Try.prog 10 #[.string s] w fun e w' => e = .returned (.bool (runesL s.data.toList).isSome) ∧ Below w.heap.size w w' := by
  go_enter Try.func10, Try.ntmps10
  go_wp2_with (first
    | (go_at_call 16; refine (new_any _).mono ?_; rintro e w' ⟨rfl, rfl⟩))
  go_loopw [8] (fun i wr => ∃ (k : Nat) (l lo hi : Int), k ≤ s.size ∧ i = .int .i64 k ∧ ScanAt wr w.heap.size l lo hi ∧ 0 ≤ l ∧ l ≤ 3 ∧ Below w.heap.size w wr ∧ Hid (UtfAt s.data.toList k l lo hi)) (fun i _ => s.size - (intOf i).toNat)
  case atStart => exact ⟨0, 0, 128, 191, Nat.zero_le _, rfl, Blk.new w _ _, by decide, by decide, (Below.refl _ _).alloc (Nat.le_refl _) _, Lib.hid ⟨0, [], rfl⟩⟩
  case round =>
    obtain ⟨k, l, lo, hi, hk, rfl, hsc, h0, h3, hbel, HW⟩ := hrel
    by_cases hlt : k < s.size
    · have hle := byte_le s[k]
      have HD := Lib.hid (drop_cons s k hlt)
      have hr := stL_range (b := s[k].toNat) h0 h3
      obtain ⟨hr0, hr3⟩ := hr
      go_wp2_with fail
      refine (step_any _ _ _ _ _ _ hsc h0 h3 (by omega) hle).mono ?_
      rintro e w1 ⟨rfl, hg1, hs1⟩
      have hbel1 : Below w.heap.size w w1 := below_only hbel hg1 hbel.size (Nat.le_refl _)
      clear hg1 hsc hbel
      generalize hO : stOk l lo hi s[k].toNat = O at *
      have HO := Lib.hid hO
      clear hO
      cases O
      · have HE := Lib.hid (utf_bad HD.out HW.out HO.out)
        go_wp2
        go_ret
        rw [HE.out]
        exact ⟨rfl, hbel1⟩
      · rw [if_pos rfl] at hs1
        go_wp2
        go_roundw
        case rel => exact ⟨k + 1, _, _, _, by omega, by go_num, hs1, hr0, hr3, hbel1, Lib.hid (utf_step HD.out HW.out HO.out)⟩
        case measure => simp [intOf]; omega
    · have hend := utf_end (by simp; omega) HW.out
      have HE := Lib.hid hend
      clear hend
      go_wp2_with (first
        | (go_at_call 18; refine (whole_any _ _ _ _ _ hsc).mono ?_; rintro e w' ⟨rfl, rfl⟩))
      go_ret
      rw [HE.out]
      exact ⟨rfl, hbel⟩
end Go.Proofs.Ytmboonmefmobcaa
