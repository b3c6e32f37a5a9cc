/-
  isUTF tells whether a text has characters.
-/
import Derived.Test.YtffocpkbmflijaaQuoteF
namespace Go.Proofs.Ytffocpkbmflijaa
open Go.RowKit Go.Maps
set_option maxRecDepth 100000

theorem stL_range {l b : Int} (h0 : 0 ≤ l) (h3 : l ≤ 3) : 0 ≤ stL l b ∧ stL l b ≤ 3 := by
  unfold stL; repeat' split
  all_goals omega
/-- All were taken up to here, and the machine stands so. -/
def UtfAt (L : List UInt8) (k : Nat) (l lo hi : Int) : Prop := ∃ num out, runesL L = runesGo ⟨l, lo, hi, num, out⟩ (L.drop k)
theorem utf_step {L : List UInt8} {k : Nat} {b : UInt8} {l lo hi : Int} (hd : L.drop k = b :: L.drop (k + 1)) (h : UtfAt L k l lo hi) (hok : stOk l lo hi b.toNat = true) : UtfAt L (k + 1) (stL l b.toNat) (stLo l b.toNat) (stHi l b.toNat) := by
  obtain ⟨num, out, h⟩ := h
  rw [hd] at h
  simp only [runesGo, rnStep, hok, if_true] at h
  split at h
  · rename_i heq
    split at heq <;> cases heq
  · rename_i s' heq
    split at heq
    · cases heq; exact ⟨_, _, h⟩
    · cases heq; exact ⟨_, _, h⟩
theorem utf_bad {L : List UInt8} {k : Nat} {b : UInt8} {l lo hi : Int} (hd : L.drop k = b :: L.drop (k + 1)) (h : UtfAt L k l lo hi) (hok : stOk l lo hi b.toNat = false) : (runesL L).isSome = false := by
  obtain ⟨num, out, h⟩ := h
  rw [hd] at h
  simp only [runesGo, rnStep, hok] at h
  simp at h
  rw [h]; rfl
theorem utf_end {L : List UInt8} {l lo hi : Int} {k : Nat} (hk : L.length ≤ k) (h : UtfAt L k l lo hi) : (runesL L).isSome = decide (l = 0) := by
  obtain ⟨num, out, h⟩ := h
  rw [h, List.drop_eq_nil_of_le hk]
  simp only [runesGo]
  split <;> simp_all

set_option maxHeartbeats 1000000 in
theorem isutf_any (s : ByteArray) (w : World) (hm : s.size ≤ 140737488355328) :
    Calls Try.prog 23 #[.string s] w fun e w' => e = .returned (.bool (runesL s.data.toList).isSome) ∧ Below w.heap.size w w' := by
  go_enter Try.func23, Try.ntmps23
  go_wp2_with (first
    | (go_at_call 32; refine (new_any _).mono ?_; rintro e w' ⟨rfl, rfl⟩))
  go_loopw [8] (fun i wr => ∃ (k : Nat) (l lo hi : Int), k ≤ s.size ∧ i = .int .i64 k ∧ ScanAt wr w.heap.size l lo hi ∧ 0 ≤ l ∧ l ≤ 3 ∧ Below w.heap.size w wr ∧ Hid (UtfAt s.data.toList k l lo hi)) (fun i _ => s.size - (intOf i).toNat)
  case atStart => exact ⟨0, 0, 128, 191, Nat.zero_le _, rfl, Blk.new w _ _, by decide, by decide, (Below.refl _ _).alloc (Nat.le_refl _) _, Lib.hid ⟨0, [], rfl⟩⟩
  case round =>
    obtain ⟨k, l, lo, hi, hk, rfl, hsc, h0, h3, hbel, HW⟩ := hrel
    by_cases hlt : k < s.size
    · have hle := byte_le s[k]
      have HD := Lib.hid (drop_cons s k hlt)
      have hr := stL_range (b := s[k].toNat) h0 h3
      obtain ⟨hr0, hr3⟩ := hr
      go_wp2_with fail
      refine (step_any _ _ _ _ _ _ hsc h0 h3 (by omega) hle).mono ?_
      rintro e w1 ⟨rfl, hg1, hs1⟩
      have hbel1 : Below w.heap.size w w1 := below_only hbel hg1 hbel.size (Nat.le_refl _)
      clear hg1 hsc hbel
      generalize hO : stOk l lo hi s[k].toNat = O at *
      have HO := Lib.hid hO
      clear hO
      cases O
      · have HE := Lib.hid (utf_bad HD.out HW.out HO.out)
        go_wp2
        go_ret
        rw [HE.out]
        exact ⟨rfl, hbel1⟩
      · rw [if_pos rfl] at hs1
        go_wp2
        go_roundw
        case rel => exact ⟨k + 1, _, _, _, by omega, by go_num, hs1, hr0, hr3, hbel1, Lib.hid (utf_step HD.out HW.out HO.out)⟩
        case measure => simp [intOf]; omega
    · have hend := utf_end (by simp; omega) HW.out
      have HE := Lib.hid hend
      clear hend
      go_wp2_with (first
        | (go_at_call 34; refine (whole_any _ _ _ _ _ hsc).mono ?_; rintro e w' ⟨rfl, rfl⟩))
      go_ret
      rw [HE.out]
      exact ⟨rfl, hbel⟩
end Go.Proofs.Ytffocpkbmflijaa
