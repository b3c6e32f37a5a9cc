/-
  The walks of QuoteRound and QuoteApart.
-/
import Derived.Test.YtmboonmefmobcaaQuoteM
namespace Go.Proofs.Ytmboonmefmobcaa
open Go.RowKit Go.Maps
set_option maxRecDepth 100000

/-- A text is refused, or printed. -/
theorem pr_two (L : List UInt8) : (prErr L ≠ 0 ∧ prText L = []) ∨ (prErr L = 0 ∧ prText L = printL L ∧ L.length ≤ 48) := by
  unfold prErr prText
  split
  · split
    · exact .inl ⟨by decide, rfl⟩
    · exact .inr ⟨rfl, rfl, by omega⟩
  · exact .inl ⟨by decide, rfl⟩

set_option maxHeartbeats 1000000 in
theorem walk_QuoteRound (s : ByteArray) (hs : s.size ≤ 140737488355328) (w : World) :
    Calls Try.prog 4 #[.string s] w fun e w' => e = .returned (.bool true) ∧ Below w.heap.size w w' := by
  go_enter Try.func4, Try.ntmps4
  go_wp2_with fail
  refine (print_any s _ hs).mono ?_
  rintro e w1 ⟨rfl, hb1⟩
  unfold PrintEnd
  have hsz := hb1.size
  rcases pr_two s.data.toList with ⟨he, ht⟩ | ⟨he, ht, hl⟩
  · rw [ht]
    generalize prErr s.data.toList = E at *
    have hne : (E != 0) = true := bne_iff_ne.2 he
    clear he ht
    go_wp2_with (first
      | (go_at_call 8; refine (lives_any _).mono ?_; rintro e w3 ⟨rfl, hb3⟩))
    go_ret
    exact ⟨rfl, hb1.trans (hb3.mono hsz)⟩
  · rw [he, ht]
    obtain ⟨T, hT⟩ : ∃ T : ByteArray, T = ⟨(printL s.data.toList).toArray⟩ := ⟨_, rfl⟩
    rw [← hT]
    have hTs : T.size = (printL s.data.toList).length := by rw [hT]; simp [ByteArray.size]
    have hpl := printL_len s.data.toList
    have hpa := (prAll_len s.data.toList).2
    have h2 : 2 ≤ T.size := by omega
    have h3 : T.size ≤ 1000 := by omega
    have hfirst : ((T[0]'(Nat.lt_of_lt_of_le (by decide) h2)).toNat : Int) = 34 := by subst hT; rfl
    have hdrop : (T.extract 1 T.size).data.toList = (printL s.data.toList).drop 1 := by
      rw [Lib.extract_data, List.take_of_length_le (by simp), hT]
    obtain ⟨U, hU⟩ : ∃ U : ByteArray, U = T.extract 1 T.size := ⟨_, rfl⟩
    have hUs : U.size ≤ 1000 := by rw [hU]; simp; omega
    have hall : qAll U.data.toList = ⟨s.data.toList, T.size - 2, true, 0⟩ := by
      rw [hU, hdrop, all_print _ hl, hTs]
    have hback : (ByteArray.mk s.data.toList.toArray) = s := by cases s; simp
    obtain ⟨m, hm⟩ : ∃ m : Nat, T.size = m + 2 := ⟨T.size - 2, by omega⟩
    have hm2 : T.size - 2 = m := by omega
    rw [hm2] at hall
    have HA := Lib.hid hall
    have HB := Lib.hid hback
    have HUE := Lib.hid hU.symm
    have hmI : (T.size : Int) = (m : Int) + 2 := by omega
    have hmz : m ≤ 1000 := by omega
    clear hall hback hdrop hTs hpl hpa he ht hm hm2 hU
    have HT := Lib.hid hT
    clear hT
    go_wp2_with fail
    rw [HUE.out]
    refine (all_any U _ (by omega)).mono ?_
    rintro e w2 ⟨rfl, hb2⟩
    rw [HA.out]
    unfold AllEnd
    have hback : (ByteArray.mk s.data.toList.toArray) = s := by cases s; simp
    simp only
    rw [hback]
    have hsz2 := hb2.size
    go_wp2_with (first
      | (go_at_call 8; refine (lives_any _).mono ?_; rintro e w3 ⟨rfl, hb3⟩))
    go_ret
    exact ⟨rfl, (hb1.trans (hb2.mono hsz)).trans (hb3.mono (Nat.le_trans hsz hsz2))⟩

set_option maxHeartbeats 1000000 in
theorem walk_QuoteApart (a : ByteArray) (ha : a.size ≤ 140737488355328) (b : ByteArray) (hb : b.size ≤ 140737488355328) (w : World) :
    Calls Try.prog 5 #[.string a, .string b] w fun e w' => e = .returned (.bool true) ∧ Below w.heap.size w w' := by
  go_enter Try.func5, Try.ntmps5
  go_wp2_with fail
  refine (print_any a _ ha).mono ?_
  rintro e w1 ⟨rfl, hb1⟩
  unfold PrintEnd
  have hsz := hb1.size
  obtain ⟨X, hX⟩ : ∃ X : ByteArray, X = ⟨(prText a.data.toList).toArray⟩ := ⟨_, rfl⟩
  rw [← hX]
  have HX := Lib.hid hX
  clear hX
  generalize hE : prErr a.data.toList = E
  have HE := Lib.hid hE
  clear hE
  go_wp2_with fail
  refine (print_any b _ hb).mono ?_
  rintro e w2 ⟨rfl, hb2⟩
  unfold PrintEnd
  have hb12 := hb1.trans (hb2.mono hsz)
  have hsz2 := hb12.size
  obtain ⟨Y, hY⟩ : ∃ Y : ByteArray, Y = ⟨(prText b.data.toList).toArray⟩ := ⟨_, rfl⟩
  rw [← hY]
  have HY := Lib.hid hY
  clear hY
  generalize hF : prErr b.data.toList = F
  have HF := Lib.hid hF
  clear hF
  clear hb1 hb2 hsz
  by_cases he : E = 0
  · subst he
    by_cases hf : F = 0
    · subst hf
      have key : (X.toList == Y.toList) = (a.toList == b.toList) := by
        have e1 : prText a.data.toList = printL a.data.toList ∧ a.data.toList.length ≤ 48 := by
          rcases pr_two a.data.toList with h | h
          · exact absurd HE.out h.1
          · exact h.2
        have e2 : prText b.data.toList = printL b.data.toList ∧ b.data.toList.length ≤ 48 := by
          rcases pr_two b.data.toList with h | h
          · exact absurd HF.out h.1
          · exact h.2
        have hx : X.toList = printL a.data.toList := by rw [HX.out, e1.1]; simp [ByteArray.toList_eq]
        have hy : Y.toList = printL b.data.toList := by rw [HY.out, e2.1]; simp [ByteArray.toList_eq]
        rw [hx, hy, ByteArray.toList_eq, ByteArray.toList_eq]
        by_cases hab : a.data.toList = b.data.toList
        · rw [hab, beq_self_eq_true, beq_self_eq_true]
        · have hxy : printL a.data.toList ≠ printL b.data.toList := fun hc => hab (print_inj e1.2 e2.2 hc)
          rw [beq_eq_false_iff_ne.2 hxy, beq_eq_false_iff_ne.2 hab]
      go_wp2_with (first
        | (go_at_call 8; refine (lives_any _).mono ?_; rintro e w3 ⟨rfl, hb3⟩))
      go_ret
      exact ⟨rfl, hb12.trans (hb3.mono hsz2)⟩
    · have hne : (F != 0) = true := bne_iff_ne.2 hf
      clear hf
      go_wp2_with (first
        | (go_at_call 8; refine (lives_any _).mono ?_; rintro e w3 ⟨rfl, hb3⟩))
      go_ret
      exact ⟨rfl, hb12.trans (hb3.mono hsz2)⟩
  · have hne : (E != 0) = true := bne_iff_ne.2 he
    clear he
    go_wp2_with (first
      | (go_at_call 8; refine (lives_any _).mono ?_; rintro e w3 ⟨rfl, hb3⟩))
    go_ret
    exact ⟨rfl, hb12.trans (hb3.mono hsz2)⟩
end Go.Proofs.Ytmboonmefmobcaa
