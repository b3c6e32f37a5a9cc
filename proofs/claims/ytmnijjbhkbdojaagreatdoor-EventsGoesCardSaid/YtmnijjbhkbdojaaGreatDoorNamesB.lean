/-
  names: Space, Cut and Join of the program.
-/
import Derived.Test.YtmnijjbhkbdojaaGreatDoorNamesA
import Derived.Test.YtmnijjbhkbdojaaGreatDoorUtf
import Derived.Test.YtmnijjbhkbdojaaGreatDoorShelf
namespace Go.Proofs.YtmnijjbhkbdojaaGreatDoor
open Go.RowKit Go.Maps
set_option maxRecDepth 100000

theorem space_long (s : ByteArray) (h : s.size = 0 ∨ 48 < s.size) : spaceL s.data.toList = false := by
  have hl : s.data.toList.length = s.size := by simp
  cases hb : spaceL s.data.toList with
  | false => rfl
  | true => have := space_len hb; omega
theorem space_eq (s : ByteArray) (h : 0 < s.size) (h48 : s.size ≤ 48) : spaceL s.data.toList = ((runesL s.data.toList).isSome && s.data.toList.all (fun d => !badB (d.toNat : Int))) := by
  have hl : s.data.toList.length = s.size := by simp
  unfold spaceL
  rw [decide_eq_true (show 1 ≤ s.data.toList.length ∧ s.data.toList.length ≤ 48 by omega), Bool.and_true]

set_option maxHeartbeats 1000000 in
theorem space_any (s : ByteArray) (w : World) (hm : s.size ≤ 140737488355328) :
    Calls Tryz.prog 38 #[.string s] w fun e w' => e = .returned (.bool (spaceL s.data.toList)) ∧ Below w.heap.size w w' := by
  by_cases h0 : s.size = 0
  · rw [space_long s (.inl h0)]
    have hs : s = ⟨#[]⟩ := ByteArray.ext (Array.eq_empty_of_size_eq_zero h0)
    subst hs
    go_enter Tryz.func38, Tryz.ntmps38
    go_wp2
    go_ret
    exact ⟨rfl, Below.refl _ _⟩
  have hn1 := str_ne h0
  have hn2 := str_ne2 h0
  by_cases h48 : 48 < s.size
  · rw [space_long s (.inr h48)]
    go_enter Tryz.func38, Tryz.ntmps38
    go_wp2
    go_ret
    exact ⟨rfl, Below.refl _ _⟩
  have hR := space_eq s (by omega) (by omega)
  generalize hgl : spaceL s.data.toList = R at *
  have HR := Lib.hid hR
  clear hR hgl h0
  go_enter Tryz.func38, Tryz.ntmps38
  go_wp2_with (first
    | (go_at_call 50; refine (new_any _).mono ?_; rintro e w' ⟨rfl, rfl⟩))
  go_loopw [15] (fun i wr => ∃ (k : Nat) (l lo hi : Int), k ≤ s.size ∧ i = .int .i64 k ∧ ScanAt wr w.heap.size l lo hi ∧ 0 ≤ l ∧ l ≤ 3 ∧ Below w.heap.size w wr ∧ Hid (UtfAt s.data.toList k l lo hi) ∧ Hid ((s.data.toList.take k).all (fun d => !badB (d.toNat : Int)) = true)) (fun i _ => s.size - (intOf i).toNat)
  case atStart => exact ⟨0, 0, 128, 191, Nat.zero_le _, rfl, Blk.new w _ _, by decide, by decide, (Below.refl _ _).alloc (Nat.le_refl _) _, Lib.hid ⟨0, [], rfl⟩, Lib.hid rfl⟩
  case round =>
    obtain ⟨k, l, lo, hi, hk, rfl, hsc, h0, h3, hbel, HW, HK⟩ := hrel
    by_cases hlt : k < s.size
    · have hle := byte_le s[k]
      have HD := Lib.hid (drop_cons s k hlt)
      have hr := stL_range (b := s[k].toNat) h0 h3
      obtain ⟨hr0, hr3⟩ := hr
      rcases Bool.eq_false_or_eq_true (badB (s[k].toNat : Int)) with hb | hb
      case' inl => have HB := Lib.hid hb
      case' inr => have HB := Lib.hid hb
      all_goals clear hb
      case inl =>
        have HX := Lib.hid (all_break (p := fun d => !badB (d.toNat : Int)) hlt (by rw [HB.out]; rfl))
        go_wp2_with (first
          | (go_at_call 51; refine (inspace_any _ _).mono ?_; rintro e w' ⟨rfl, rfl⟩; rw [HB.out]))
        go_ret
        refine ⟨ret_bool ?_, hbel⟩
        rw [HR.out, HX.out, Bool.and_false]
      case inr =>
        have HX := Lib.hid (all_snoc (p := fun d => !badB (d.toNat : Int)) hlt HK.out)
        go_wp2_with (first
          | (go_at_call 51; refine (inspace_any _ _).mono ?_; rintro e w' ⟨rfl, rfl⟩; rw [HB.out]))
        refine (step_any _ _ _ _ _ _ hsc h0 h3 (by omega) hle).mono ?_
        rintro e w1 ⟨rfl, hg1, hs1⟩
        have hbel1 : Below w.heap.size w w1 := below_only hbel hg1 hbel.size (Nat.le_refl _)
        clear hg1 hsc hbel
        generalize hO : stOk l lo hi s[k].toNat = O at *
        have HO := Lib.hid hO
        clear hO
        cases O
        · have HE := Lib.hid (utf_bad HD.out HW.out HO.out)
          go_wp2
          go_ret
          refine ⟨ret_bool ?_, hbel1⟩
          rw [HR.out, HE.out, Bool.false_and]
        · rw [if_pos rfl] at hs1
          go_wp2
          go_roundw
          case rel => exact ⟨k + 1, _, _, _, by omega, by go_num, hs1, hr0, hr3, hbel1, Lib.hid (utf_step HD.out HW.out HO.out), Lib.hid (HX.out.trans (by rw [HB.out]; rfl))⟩
          case measure => simp [intOf]; omega
    · have hend := utf_end (by simp; omega) HW.out
      have HE := Lib.hid hend
      clear hend
      go_wp2_with (first
        | (go_at_call 53; refine (whole_any _ _ _ _ _ hsc).mono ?_; rintro e w' ⟨rfl, rfl⟩))
      go_ret
      refine ⟨ret_bool ?_, hbel⟩
      have hK := HK.out
      rw [List.take_of_length_le (by simp; omega)] at hK
      rw [HR.out, HE.out, hK, Bool.and_true]

theorem clone_any (s : ByteArray) (w : World) (hm : s.size ≤ 140737488355328) :
    Calls Tryz.prog 32 #[.string s] w fun e w' => e = .returned (.string s) ∧ Below w.heap.size w w' := by
  go_enter Tryz.func32, Tryz.ntmps32
  go_wp2_with (go_at_call 42; refine (Tryz.stringslite_Clone s w (by omega)).mono ?_; rintro e w' ⟨rfl, hb⟩)
  go_ret
  exact ⟨rfl, hb⟩
end Go.Proofs.YtmnijjbhkbdojaaGreatDoor
