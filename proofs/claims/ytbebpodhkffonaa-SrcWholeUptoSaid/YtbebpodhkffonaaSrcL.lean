/-
  The walks of SrcRunes and SrcWhole.
-/
import Derived.Test.YtbebpodhkffonaaSrcI
namespace Go.Proofs.Ytbebpodhkffonaa
open Go.RowKit
set_option maxRecDepth 100000

set_option maxHeartbeats 400000 in
theorem walk_SrcRunes (s : ByteArray) (hs : s.size ≤ 1048576) (w : World) :
    Calls Try.prog 4 #[.string s] w fun e w' => e = .returned (.bool true) ∧ Below w.heap.size w w' := by
  go_enter Try.func4, Try.ntmps4
  go_wp2_with fail
  refine (runes_any s _ (by omega)).mono ?_
  rintro e w1 ⟨v1, rfl, hr1, hb1⟩
  generalize hX : (runesL s.data.toList).isSome = X at *
  generalize hY : (runesL s.data.toList).getD [] = Y at *
  have HX := Lib.hid hX
  have HY := Lib.hid hY
  clear hX hY
  go_wp2_with fail
  refine (rrunes_any s _ (by omega)).mono ?_
  rintro e w2 ⟨v2, rfl, hr2, hb2⟩
  rw [HY.out] at hr2
  rw [HX.out]
  have i1 := (IRead.of_row hr1).below hb2
  have i2 := IRead.of_row hr2
  have hlen : Y.length ≤ 140737488355328 := by
    rcases hr1.form with ⟨_, h⟩ | ⟨g, cap, _, _, _, _, _⟩
    · have : Y = [] := by simpa using h
      subst this; simp
    · rw [← HY.out]; exact Nat.le_trans (runesL_len s.data.toList) (by simp; omega)
  have hb := hb1.trans (hb2.mono hb1.size)
  clear hr1 hr2 hb1 hb2
  go_wp2_with fail
  refine (same_any _ _ _ Y Y i1 i2 hlen).mono ?_
  rintro e w3 ⟨rfl, n, rfl⟩
  rw [show decide (Y = Y) = true from by simp]
  clear i1 i2 hlen
  go_wp2_with (first
    | (go_at_call 15; refine (lives_any _).mono ?_; rintro e w3 ⟨rfl, hb3⟩))
  go_ret
  exact ⟨rfl, (below_drewN hb n).trans (hb3.mono hb.size)⟩

theorem stL_range {l b : Int} (h0 : 0 ≤ l) (h3 : l ≤ 3) : 0 ≤ stL l b ∧ stL l b ≤ 3 := by
  unfold stL; repeat' split
  all_goals omega

/-- All were taken up to here, and the machine stands so; or one was not, and there are no characters. -/
def WholeAt (L : List UInt8) (k : Nat) (al : Bool) (l lo hi : Int) : Prop :=
  if al = true then ∃ num out, runesL L = runesGo ⟨l, lo, hi, num, out⟩ (L.drop k) else runesL L = none

theorem wholeAt_step {L : List UInt8} {k : Nat} {b : UInt8} {l lo hi : Int} (hd : L.drop k = b :: L.drop (k + 1)) (h : WholeAt L k true l lo hi) (hok : stOk l lo hi b.toNat = true) : WholeAt L (k + 1) true (stL l b.toNat) (stLo l b.toNat) (stHi l b.toNat) := by
  obtain ⟨num, out, h⟩ := h
  rw [hd] at h
  simp only [runesGo, rnStep, hok, if_true] at h
  unfold WholeAt
  rw [if_pos rfl]
  split at h
  · rename_i heq
    split at heq <;> cases heq
  · rename_i s' heq
    split at heq
    · cases heq; exact ⟨_, _, h⟩
    · cases heq; exact ⟨_, _, h⟩
theorem wholeAt_bad {L : List UInt8} {k k' : Nat} {b : UInt8} {l lo hi l' lo' hi' : Int} (hd : L.drop k = b :: L.drop (k + 1)) (h : WholeAt L k true l lo hi) (hok : stOk l lo hi b.toNat = false) : WholeAt L k' false l' lo' hi' := by
  obtain ⟨num, out, h⟩ := h
  rw [hd] at h
  simp only [runesGo, rnStep, hok] at h
  unfold WholeAt
  rw [if_neg (by decide)]
  simpa using h
theorem wholeAt_end {L : List UInt8} {al : Bool} {l lo hi : Int} {k : Nat} (hk : L.length ≤ k) (h : WholeAt L k al l lo hi) : (runesL L).isSome = (al && decide (l = 0)) := by
  unfold WholeAt at h
  cases al
  · rw [if_neg (by decide)] at h
    rw [h]; rfl
  · obtain ⟨num, out, h⟩ := h
    rw [h, List.drop_eq_nil_of_le hk]
    simp only [runesGo]
    split <;> simp_all

set_option maxHeartbeats 1000000 in
theorem walk_SrcWhole (s : ByteArray) (hs : s.size ≤ 1048576) (w : World) :
    Calls Try.prog 7 #[.string s] w fun e w' => e = .returned (.bool true) ∧ Below w.heap.size w w' := by
  go_enter Try.func7, Try.ntmps7
  go_wp2_with (first
    | (go_at_call 10; refine (new_any _).mono ?_; rintro e w' ⟨rfl, rfl⟩))
  go_loopw [4, 5] (fun a i wr => ∃ (k : Nat) (al : Bool) (l lo hi : Int), k ≤ s.size ∧ i = .int .i64 k ∧ a = .bool al ∧ ScanAt wr w.heap.size l lo hi ∧ 0 ≤ l ∧ l ≤ 3 ∧ Below w.heap.size w wr ∧ Hid (WholeAt s.data.toList k al l lo hi)) (fun _ i _ => s.size - (intOf i).toNat)
  case atStart => exact ⟨0, true, 0, 128, 191, Nat.zero_le _, rfl, rfl, Blk.new w _ _, by decide, by decide, (Below.refl _ _).alloc (Nat.le_refl _) _, Lib.hid ⟨0, [], rfl⟩⟩
  case round =>
    obtain ⟨k, al, l, lo, hi, hk, rfl, rfl, hsc, h0, h3, hbel, HW⟩ := hrel
    by_cases hlt : k < s.size
    · have hle := byte_le s[k]
      have HD := Lib.hid (drop_cons s k hlt)
      have hr := stL_range (b := s[k].toNat) h0 h3
      obtain ⟨hr0, hr3⟩ := hr
      go_wp2_with fail
      refine (step_any _ _ _ _ _ _ hsc h0 h3 (by omega) hle).mono ?_
      rintro e w1 ⟨rfl, hg1, hs1⟩
      have hbel1 : Below w.heap.size w w1 := below_only hbel hg1 hbel.size (Nat.le_refl _)
      clear hg1 hsc hbel
      generalize hO : stOk l lo hi s[k].toNat = O at *
      have HO := Lib.hid hO
      clear hO
      cases O
      · rw [if_neg (by decide)] at hs1
        cases al
        · go_wp2
          go_roundw
          case rel => exact ⟨k + 1, false, l, lo, hi, by omega, by go_num, rfl, hs1, h0, h3, hbel1, Lib.hid HW.out⟩
          case measure => simp [intOf]; omega
        · go_wp2
          go_roundw
          case rel => exact ⟨k + 1, false, l, lo, hi, by omega, by go_num, rfl, hs1, h0, h3, hbel1, Lib.hid (wholeAt_bad HD.out HW.out HO.out)⟩
          case measure => simp [intOf]; omega
      · rw [if_pos rfl] at hs1
        cases al
        · go_wp2
          go_roundw
          case rel => exact ⟨k + 1, false, _, _, _, by omega, by go_num, rfl, hs1, hr0, hr3, hbel1, Lib.hid HW.out⟩
          case measure => simp [intOf]; omega
        · go_wp2
          go_roundw
          case rel => exact ⟨k + 1, true, _, _, _, by omega, by go_num, rfl, hs1, hr0, hr3, hbel1, Lib.hid (wholeAt_step HD.out HW.out HO.out)⟩
          case measure => simp [intOf]; omega
    · have hend := wholeAt_end (by simp; omega) HW.out
      have HE := Lib.hid hend
      clear hend
      go_wp2_with fail
      refine (runes_any s _ (by omega)).mono ?_
      rintro e w1 ⟨v1, rfl, hr1, hb1⟩
      rw [HE.out]
      have hs1 : ScanAt w1 w.heap.size l lo hi := Blk.below hsc hb1 hsc.lt
      have hb := hbel.trans (hb1.mono hbel.size)
      clear hr1 hb1 hsc hbel
      generalize hD : decide (l = 0) = D
      have HD := Lib.hid hD
      clear hD
      cases al
      · simp only [Bool.false_and]
        go_wp2_with (first
          | (go_at_call 15; refine (lives_any _).mono ?_; rintro e w3 ⟨rfl, hb3⟩))
        go_ret
        exact ⟨rfl, hb.trans (hb3.mono hb.size)⟩
      · simp only [Bool.true_and]
        go_wp2_with (first
          | (go_at_call 14; refine (whole_any _ _ _ _ _ hs1).mono ?_; rintro e w' ⟨rfl, rfl⟩; rw [HD.out])
          | (go_at_call 15; refine (lives_any _).mono ?_; rintro e w3 ⟨rfl, hb3⟩))
        go_ret
        exact ⟨rfl, hb.trans (hb3.mono hb.size)⟩
end Go.Proofs.Ytbebpodhkffonaa
