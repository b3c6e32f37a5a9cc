/-
  The reference's One: the character at the beginning.
-/
import Derived.Test.YtmboonmefmobcaaSrcA
namespace Go.Proofs.Ytmboonmefmobcaa
open Go.RowKit
set_option maxRecDepth 100000

theorem bytes_cons (s : ByteArray) (h : 0 < s.size) : s.data.toList = s[0] :: s.data.toList.drop 1 := by
  have : s.data.toList = s.data.toList.drop 0 := rfl
  rw [this, List.drop_eq_getElem_cons (by simpa using h)]
  rfl
theorem bytes_take (s : ByteArray) (k : Nat) (h1 : 1 ≤ k) (h : k < s.size) : (s.data.toList.drop 1).take k = (s.data.toList.drop 1).take (k - 1) ++ [s[k]] := by
  obtain ⟨j, rfl⟩ : ∃ j, k = j + 1 := ⟨k - 1, by omega⟩
  simp only [Nat.add_sub_cancel]
  rw [List.take_succ_eq_append_getElem (by simp; omega)]
  congr 1
  simp [ByteArray.getElem_eq_getElem_data]

def OneEnd (l : List UInt8) (e : Ending) : Prop := e = .returned (.tuple #[.int .i64 (oneL l).1, .int .i64 (oneL l).2])
theorem oneEnd_of {l : List UInt8} {r n : Int} (h : oneL l = (r, n)) : OneEnd l (.returned (.tuple #[.int .i64 r, .int .i64 n])) := by unfold OneEnd; rw [h]

theorem one_0 (s : ByteArray) (w : World) (h : s.size = 0) :
    Calls Try.prog 23 #[.string s] w fun e w' => OneEnd s.data.toList e ∧ w = w' := by
  have hl : s.data.toList = [] := List.eq_nil_of_length_eq_zero (by simpa using h)
  have hb : ((s.size : Int) == 0) = true := by simp [h]
  rw [hl]
  clear h hl
  go_enter Try.func23, Try.ntmps23
  go_wp2
  go_ret2
  exact ⟨oneEnd_of rfl, rfl⟩

theorem one_1 (s : ByteArray) (w : World) (hm : s.size ≤ 140737488355328) (h : 0 < s.size) (hc : (s[0].toNat : Int) < 128) :
    Calls Try.prog 23 #[.string s] w fun e w' => OneEnd s.data.toList e ∧ w = w' := by
  have hb : ((s.size : Int) == 0) = false := beq_eq_false_iff_ne.2 (by omega)
  have hone : oneL s.data.toList = ((s[0].toNat : Int), 1) := by rw [bytes_cons s h, oneL, if_pos hc]
  have HO := Lib.hid hone
  clear hone
  go_enter Try.func23, Try.ntmps23
  go_wp2
  go_ret2
  exact ⟨oneEnd_of HO.out, rfl⟩

theorem one_bad (s : ByteArray) (w : World) (hm : s.size ≤ 140737488355328) (h : 0 < s.size) (hc : 128 ≤ (s[0].toNat : Int)) (hn : (s[0].toNat : Int) < 192 ∨ 248 ≤ (s[0].toNat : Int)) :
    Calls Try.prog 23 #[.string s] w fun e w' => OneEnd s.data.toList e ∧ w = w' := by
  have hb : ((s.size : Int) == 0) = false := beq_eq_false_iff_ne.2 (by omega)
  have hone : oneL s.data.toList = (0, 0) := by
    have : leadN (s[0].toNat : Int) = 0 := by unfold leadN; rw [if_neg (by omega), if_neg (by omega), if_neg (by omega)]
    rw [bytes_cons s h, oneL, if_neg (by omega), if_pos (.inl this)]
  have HO := Lib.hid hone
  clear hone
  have hle := byte_le s[0]
  rcases hn with hn | hn
  all_goals
    go_enter Try.func23, Try.ntmps23
    go_wp2
    go_ret2
    exact ⟨oneEnd_of HO.out, rfl⟩

theorem one_short (s : ByteArray) (w : World) (hm : s.size ≤ 140737488355328) (h : 0 < s.size) (hc : 192 ≤ (s[0].toNat : Int)) (hn : (s[0].toNat : Int) < 248) (hs : (s.size : Int) < leadN s[0].toNat) :
    Calls Try.prog 23 #[.string s] w fun e w' => OneEnd s.data.toList e ∧ w = w' := by
  have hb : ((s.size : Int) == 0) = false := beq_eq_false_iff_ne.2 (by omega)
  have hone : oneL s.data.toList = (0, 0) := by
    have hz : ((s.data.toList.drop 1).length : Int) + 1 = s.size := by simp; omega
    rw [bytes_cons s h, oneL, if_neg (by omega), if_pos (.inr (by omega))]
  have HO := Lib.hid hone
  clear hone
  rcases (show ((s[0].toNat : Int) < 224 ∧ (s.size : Int) < 2) ∨ (224 ≤ (s[0].toNat : Int) ∧ (s[0].toNat : Int) < 240 ∧ (s.size : Int) < 3) ∨ (240 ≤ (s[0].toNat : Int) ∧ (s.size : Int) < 4) by
    unfold leadN at hs
    split at hs
    · omega
    · split at hs
      · omega
      · split at hs <;> omega) with ⟨g1, g2⟩ | ⟨g1, g2, g3⟩ | ⟨g1, g2⟩
  all_goals
    clear hs
    go_enter Try.func23, Try.ntmps23
    go_wp2
    go_ret2
    exact ⟨oneEnd_of HO.out, rfl⟩

end Go.Proofs.Ytmboonmefmobcaa
