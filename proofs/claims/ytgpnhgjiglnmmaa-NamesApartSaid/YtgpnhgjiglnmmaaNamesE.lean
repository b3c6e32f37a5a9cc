/-
  names: Join of the program.
-/
import Derived.Test.YtgpnhgjiglnmmaaNamesD
namespace Go.Proofs.Ytgpnhgjiglnmmaa
open Go.RowKit Go.Maps
set_option maxRecDepth 100000

def JoinEnd (s l : List UInt8) : Ending :=
  match joinL s l with
  | none => .returned (.tuple #[.string ⟨#[]⟩, .bool false])
  | some f => .returned (.tuple #[.string ⟨f.toArray⟩, .bool true])
theorem joinEnd_none {s l : List UInt8} (h : joinL s l = none) : JoinEnd s l = .returned (.tuple #[.string ⟨#[]⟩, .bool false]) := by unfold JoinEnd; rw [h]
theorem joinEnd_some {s l f : List UInt8} (h : joinL s l = some f) : JoinEnd s l = .returned (.tuple #[.string ⟨f.toArray⟩, .bool true]) := by unfold JoinEnd; rw [h]
theorem joined_str (s l : ByteArray) : (⟨#[123]⟩ ++ s ++ ⟨#[125]⟩ ++ l : ByteArray) = ⟨(123 :: (s.data.toList ++ 125 :: l.data.toList)).toArray⟩ := by
  apply ByteArray.ext
  apply Array.toList_inj.1
  simp
theorem joined_size (s l : ByteArray) : (⟨#[123]⟩ ++ s ++ ⟨#[125]⟩ ++ l : ByteArray).size = s.size + l.size + 2 := by
  simp only [ByteArray.size_append]
  show 1 + s.size + 1 + l.size = _
  omega

set_option maxHeartbeats 1000000 in
theorem join_any (s l : ByteArray) (w : World) (hm : s.size ≤ 140737488355328) (hm2 : l.size ≤ 140737488355328) :
    Calls Try.prog 16 #[.string s, .string l] w fun e w' => e = JoinEnd s.data.toList l.data.toList ∧ Below w.heap.size w w' := by
  have hls : s.data.toList.length = s.size := by simp
  have hll : l.data.toList.length = l.size := by simp
  have hbel := Below.refl w.heap.size w
  rcases Bool.eq_false_or_eq_true (localL l.data.toList) with hf | hf
  · have HF := Lib.hid hf
    have h16 := (local_len hf).2
    by_cases h0 : s.size = 0
    · have hs : s = ⟨#[]⟩ := ByteArray.ext (Array.eq_empty_of_size_eq_zero h0)
      subst hs
      rw [joinEnd_some (f := l.data.toList) (by unfold joinL; rw [if_pos ⟨hf, .inl rfl⟩, if_pos rfl])]
      clear hf hls hll h0
      go_enter Try.func16, Try.ntmps16
      go_wp2_with (first
        | (go_at_call 11; refine (local_any l _ hm2).mono ?_; rintro e w' ⟨rfl, rfl⟩; rw [HF.out])
        | (go_at_call 27; refine (clone_any _ _ hm2).mono ?_; rintro e w' ⟨rfl, hb1⟩; replace hbel := hbel.trans (hb1.mono hbel.size); clear hb1))
      go_ret2
      exact ⟨rfl, hbel⟩
    · have hn1 := str_ne h0
      have hn2 := str_ne2 h0
      have hnil : s.data.toList ≠ [] := by intro hc; rw [hc] at hls; simp at hls; omega
      rcases Bool.eq_false_or_eq_true (spaceL s.data.toList) with hs | hs
      case' inl => have HS := Lib.hid hs
      case' inr => have HS := Lib.hid hs
      case inr =>
        rw [joinEnd_none (by unfold joinL; rw [if_neg (by rw [hs]; simp [hnil])])]
        clear hf hls hll h0 hs hnil
        go_enter Try.func16, Try.ntmps16
        go_wp2_with (first
          | (go_at_call 11; refine (local_any l _ hm2).mono ?_; rintro e w' ⟨rfl, rfl⟩; rw [HF.out])
          | (go_at_call 13; refine (space_any _ _ hm).mono ?_; rintro e w' ⟨rfl, hb1⟩; rw [HS.out]; replace hbel := hbel.trans (hb1.mono hbel.size); clear hb1))
        go_ret2
        exact ⟨rfl, hbel⟩
      case inl =>
        have h48 := (space_len hs).2
        have HZ := joined_size s l
        have HJ := Lib.hid (joined_str s l)
        by_cases hov : 48 < s.size + l.size + 2
        case' pos => rw [joinEnd_none (by unfold joinL; rw [if_pos ⟨hf, .inr hs⟩, if_neg hnil, if_pos (by omega)])]
        case' neg => rw [joinEnd_some (by unfold joinL; rw [if_pos ⟨hf, .inr hs⟩, if_neg hnil, if_neg (by omega)]), ← HJ.out]
        all_goals
          clear hf hls hll h0 hs hnil HJ
          go_enter Try.func16, Try.ntmps16
          go_wp2_with (first
            | (go_at_call 11; refine (local_any l _ hm2).mono ?_; rintro e w' ⟨rfl, rfl⟩; rw [HF.out])
            | (go_at_call 13; refine (space_any _ _ hm).mono ?_; rintro e w' ⟨rfl, hb1⟩; rw [HS.out]; replace hbel := hbel.trans (hb1.mono hbel.size); clear hb1))
          go_ret2
          exact ⟨rfl, hbel⟩
  · have HF := Lib.hid hf
    rw [joinEnd_none (by unfold joinL; rw [if_neg (by rw [hf]; simp)])]
    clear hf hls hll
    go_enter Try.func16, Try.ntmps16
    go_wp2_with (first
      | (go_at_call 11; refine (local_any l _ hm2).mono ?_; rintro e w' ⟨rfl, rfl⟩; rw [HF.out]))
    go_ret2
    exact ⟨rfl, hbel⟩
end Go.Proofs.Ytgpnhgjiglnmmaa
