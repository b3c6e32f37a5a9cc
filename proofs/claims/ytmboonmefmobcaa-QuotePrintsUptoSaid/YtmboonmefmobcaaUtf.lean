/-
  A text stepped through, byte by byte, has characters just if all is whole in the end. No program is read here.
-/
import Derived.Test.YtmboonmefmobcaaU8
namespace Go.Proofs.Ytmboonmefmobcaa
set_option maxRecDepth 8000

theorem stL_range {l b : Int} (h0 : 0 ≤ l) (h3 : l ≤ 3) : 0 ≤ stL l b ∧ stL l b ≤ 3 := by
  unfold stL; repeat' split
  all_goals omega
/-- All were taken up to here, and the machine stands so. -/
def UtfAt (L : List UInt8) (k : Nat) (l lo hi : Int) : Prop := ∃ num out, runesL L = runesGo ⟨l, lo, hi, num, out⟩ (L.drop k)
theorem utf_step {L : List UInt8} {k : Nat} {b : UInt8} {l lo hi : Int} (hd : L.drop k = b :: L.drop (k + 1)) (h : UtfAt L k l lo hi) (hok : stOk l lo hi b.toNat = true) : UtfAt L (k + 1) (stL l b.toNat) (stLo l b.toNat) (stHi l b.toNat) := by
  obtain ⟨num, out, h⟩ := h
  rw [hd] at h
  simp only [runesGo, rnStep, hok, if_true] at h
  split at h
  · rename_i heq
    split at heq <;> cases heq
  · rename_i s' heq
    split at heq
    · cases heq; exact ⟨_, _, h⟩
    · cases heq; exact ⟨_, _, h⟩
theorem utf_bad {L : List UInt8} {k : Nat} {b : UInt8} {l lo hi : Int} (hd : L.drop k = b :: L.drop (k + 1)) (h : UtfAt L k l lo hi) (hok : stOk l lo hi b.toNat = false) : (runesL L).isSome = false := by
  obtain ⟨num, out, h⟩ := h
  rw [hd] at h
  simp only [runesGo, rnStep, hok] at h
  simp at h
  rw [h]; rfl
theorem utf_end {L : List UInt8} {l lo hi : Int} {k : Nat} (hk : L.length ≤ k) (h : UtfAt L k l lo hi) : (runesL L).isSome = decide (l = 0) := by
  obtain ⟨num, out, h⟩ := h
  rw [h, List.drop_eq_nil_of_le hk]
  simp only [runesGo]
  split <;> simp_all

theorem drop_cons (s : ByteArray) (k : Nat) (h : k < s.size) : s.data.toList.drop k = s[k] :: s.data.toList.drop (k + 1) := by
  rw [List.drop_eq_getElem_cons (by simpa using h)]; rfl

theorem extract_all (s : ByteArray) (a : Nat) : (s.extract a s.size).data.toList = s.data.toList.drop a := by
  rw [show (s.extract a s.size).data.toList = (s.data.toList.drop a).take (s.size - a) from by simp, List.take_of_length_le]
  simp
end Go.Proofs.Ytmboonmefmobcaa
