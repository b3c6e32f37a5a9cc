/-
  lives: the document's examples of layer 3 come out true; how a run ends.
-/
import Derived.Test.YtmboonmefmobcaaQuoteJ
namespace Go.Proofs.Ytmboonmefmobcaa
open Go.RowKit Go.Maps
set_option maxRecDepth 100000

theorem ex_all : qAll [97, 92, 117, 48, 48, 101, 57, 34] = ⟨[97, 195, 169], 7, true, 0⟩ := by rfl
theorem ex_bad : qAll [92, 120] = ⟨[], 1, false, 9⟩ := by rfl
theorem ex_print : PrintEnd [97, 34, 10, 1] = .returned (.tuple #[.string ⟨#[34, 97, 92, 34, 92, 110, 92, 117, 48, 48, 48, 49, 34]⟩, .int .i64 0]) := by rfl

set_option maxHeartbeats 1000000 in
theorem lives_any (w : World) :
    Calls Try.prog 8 #[] w fun e w' => e = .returned (.bool true) ∧ Below w.heap.size w w' := by
  go_enter Try.func8, Try.ntmps8
  go_wp2_with fail
  refine (all_any ⟨#[97, 92, 117, 48, 48, 101, 57, 34]⟩ _ (by decide)).mono ?_
  rintro e w1 ⟨rfl, hb1⟩
  rw [show AllEnd (qAll (ByteArray.mk #[97, 92, 117, 48, 48, 101, 57, 34]).data.toList) = .returned (.tuple #[.string ⟨#[97, 195, 169]⟩, .int .i64 7, .bool true, .int .i64 0]) from congrArg AllEnd ex_all]
  go_wp2_with fail
  refine (print_any ⟨#[97, 34, 10, 1]⟩ _ (by decide)).mono ?_
  rintro e w2 ⟨rfl, hb2⟩
  rw [show PrintEnd (ByteArray.mk #[97, 34, 10, 1]).data.toList = _ from ex_print]
  go_wp2_with fail
  refine (all_any ⟨#[92, 120]⟩ _ (by decide)).mono ?_
  rintro e w3 ⟨rfl, hb3⟩
  rw [show AllEnd (qAll (ByteArray.mk #[92, 120]).data.toList) = .returned (.tuple #[.string ⟨#[]⟩, .int .i64 1, .bool false, .int .i64 9]) from congrArg AllEnd ex_bad]
  go_wp2
  go_ret
  exact ⟨rfl, (hb1.trans (hb2.mono hb1.size)).trans (hb3.mono (Nat.le_trans hb1.size hb2.size))⟩

theorem qadd_done (q : QS) (ch : List UInt8) : (qAdd q ch).done = false := by unfold qAdd; split <;> rfl
theorem letter_done (q : QS) (b : Int) : (qLetter q b).done = false := by
  unfold qLetter
  repeat' split
  all_goals first | rfl | exact qadd_done _ _
theorem digit_done (q : QS) (b : Int) : (qDigit q b).done = false := by
  unfold qDigit
  repeat' split
  all_goals first | rfl | exact qadd_done _ _
theorem step_done {q : QS} {b : Int} (h : (qStep q b).done = true) : (qStep q b).e = 0 ∧ (qStep q b).q.st = 3 ∧ (qStep q b).q.xs = q.xs := by
  unfold qStep at h ⊢
  split at h
  · rw [letter_done] at h; cases h
  · split at h
    · rw [digit_done] at h; cases h
    · split at h
      · cases h
      · rename_i h1 h2 h3
        rw [if_neg h1, if_neg h2, if_neg h3]
        unfold qPlain at h ⊢
        split at h
        · cases h
        · split at h
          · rename_i h4 h5
            rw [if_neg h4, if_pos h5]
            exact ⟨rfl, rfl, rfl⟩
          · split at h
            · cases h
            · rw [qadd_done] at h; cases h
theorem step_grows {q : QS} {b : Int} : ∃ ch, (qStep q b).q.xs = q.xs ++ ch := by
  unfold qStep qLetter qDigit qPlain qAdd
  repeat' split
  all_goals first | exact ⟨_, rfl⟩ | exact ⟨[], by simp⟩

theorem run_facts (l : List UInt8) : ∀ (q : QS) (i : Nat), QInv q → ((qRun q i l).e ≠ 0 → (qRun q i l).done = false) ∧ ((qRun q i l).e = 0 → (qRun q i l).done = false → (qRun q i l).n = i + l.length) ∧ (qRun q i l).text.length ≤ 48 ∧ (qRun q i l).n ≤ i + l.length := by
  induction l with
  | nil => intro q i h; exact ⟨fun h => absurd rfl h, fun _ _ => rfl, h.1, Nat.le_refl _⟩
  | cons b t ih =>
    intro q i h
    have h1 := qInv_step (b := (b.toNat : Int)) h
    rw [qRun]
    split
    · rename_i hc
      refine ⟨fun he => ?_, fun he hd => ?_, h1.1, by simp⟩
      · cases hd : (qStep q (b.toNat : Int)).done
        · rfl
        · exact absurd (step_done hd).1 he
      · rcases hc with hc | hc
        · exact absurd hc (by simpa using hd)
        · exact absurd he hc
    · have := ih _ (i + 1) h1
      simp only [List.length_cons]
      refine ⟨this.1, fun a b => by have := this.2.1 a b; omega, this.2.2.1, by have := this.2.2.2; omega⟩
theorem all_facts (l : List UInt8) : ((qAll l).e ≠ 0 → (qAll l).done = false) ∧ ((qAll l).e = 0 → (qAll l).done = false → (qAll l).n = l.length) ∧ (qAll l).text.length ≤ 48 ∧ (qAll l).n ≤ l.length := by
  have := run_facts l (plainQ []) 0 qInv0
  simpa [qAll] using this
end Go.Proofs.Ytmboonmefmobcaa
