/-
  The walks of QuoteGrows, QuoteRound and QuoteApart.
-/
import Derived.Test.YtffocpkbmflijaaQuoteM
namespace Go.Proofs.Ytffocpkbmflijaa
open Go.RowKit Go.Maps
set_option maxRecDepth 100000

theorem stepdEnd_ok (q : QS) (b : Int) {q1 : QS} {d : Bool} (h : qStep q b = ⟨d, 0, q1⟩) : ∃ ch, q1.xs = q.xs ++ ch ∧ (d = true → q1.st = 3 ∧ q1.xs = q.xs) := by
  obtain ⟨ch, hc⟩ := step_grows (q := q) (b := b)
  rw [h] at hc
  refine ⟨ch, hc, fun hd => ?_⟩
  have := step_done (q := q) (b := b) (by rw [h]; exact hd)
  rw [h] at this
  exact this.2

set_option maxHeartbeats 1000000 in
theorem walk_QuoteGrows (s : ByteArray) (hs : s.size ≤ 140737488355328) (w : World) :
    Calls Try.prog 4 #[.string s] w fun e w' => e = .returned (.bool true) ∧ Below w.heap.size w w' := by
  go_enter Try.func4, Try.ntmps4
  go_wp2_with (first
    | (go_at_call 12; refine (qnew_any _).mono ?_; rintro e w1 ⟨rfl, hq1, hb1⟩))
  go_loopw [4, 5] (fun t i wr => ∃ (k : Nat) (q : QS), k ≤ s.size ∧ i = .int .i64 k ∧ t = .string ⟨q.xs.toArray⟩ ∧ QAt wr w.heap.size q ∧ QInv q ∧ Below w.heap.size w wr) (fun _ i _ => s.size - (intOf i).toNat)
  case atStart => exact ⟨0, plainQ [], Nat.zero_le _, rfl, rfl, hq1, qInv0, hb1⟩
  case round =>
    obtain ⟨k, q, hk, rfl, rfl, hq, hinv, hbel⟩ := hrel
    by_cases hlt : k < s.size
    · have hle := byte_le s[k]
      generalize hS : qStep q (s[k].toNat : Int) = R at *
      have hinv1 : QInv R.q := by rw [← hS]; exact qInv_step hinv
      obtain ⟨dn, er, q1⟩ := R
      have HS := Lib.hid hS
      clear hS
      obtain ⟨WAS, hWAS⟩ : ∃ WAS : ByteArray, WAS = ⟨q.xs.toArray⟩ := ⟨_, rfl⟩
      rw [← hWAS]
      have HW := Lib.hid hWAS
      clear hWAS
      go_wp2_with fail
      refine (qstep_any _ _ q _ (by omega) hle hq hinv).mono ?_
      rintro e w1 ⟨rfl, hq1, hb1⟩
      rw [HS.out] at hq1 ⊢
      unfold StepEnd
      have hbel1 : Below w.heap.size w w1 := hbel.trans hb1
      have hsz1 := hbel1.size
      simp only at hq1 hinv1 ⊢
      clear hq hb1 hbel
      by_cases he : er = 0
      · subst he
        obtain ⟨ch, hch, hdn⟩ := stepdEnd_ok q _ HS.out
        obtain ⟨NOW, hNOW⟩ : ∃ NOW : ByteArray, NOW = ⟨q1.xs.toArray⟩ := ⟨_, rfl⟩
        have n48 : NOW.size ≤ 48 := by rw [hNOW]; have := hinv1.1; simpa [ByteArray.size] using this
        have hle2 : WAS.size ≤ NOW.size := by rw [HW.out, hNOW]; simp [ByteArray.size, hch]
        have hex : NOW.extract 0 WAS.size = WAS := by
          rw [HW.out, hNOW]
          apply ByteArray.ext
          simp [ByteArray.size, hch]
        have HN := Lib.hid hNOW
        obtain ⟨d', n', hr1, hr2⟩ := hq1
        have htx := text_any w1 w.heap.size q1.xs q1.st d' n' hr1
        rw [← hNOW] at htx
        clear hNOW
        cases dn
        · clear hdn
          go_wp2_with (first
            | (go_at_call 14; refine htx.mono ?_; rintro e w' ⟨rfl, rfl⟩))
          go_roundw
          case rel => exact ⟨k + 1, q1, by omega, by go_num, by rw [HN.out], ⟨d', n', hr1, hr2⟩, hinv1, hbel1⟩
          case measure => simp [intOf]; omega
        · obtain ⟨h3, hx⟩ := hdn rfl
          have heq : NOW = WAS := by rw [HN.out, HW.out, hx]
          have hst : qStep q1 97 = ⟨false, 2, q1⟩ := by unfold qStep; rw [if_neg (by omega), if_neg (by omega), if_pos h3]
          have H3 := Lib.hid hst
          clear hst hx h3 hex hle2
          subst heq
          have hex : NOW.extract 0 NOW.size = NOW := by simp
          go_wp2_with (first
            | (go_at_call 14; refine htx.mono ?_; rintro e w' ⟨rfl, rfl⟩)
            | (go_at_call 13; refine (qstep_any _ _ q1 97 (by decide) (by decide) ⟨d', n', hr1, hr2⟩ hinv1).mono ?_; rintro e w2 ⟨rfl, _, hb2⟩; rw [H3.out]; unfold StepEnd; simp only)
            | (go_at_call 11; refine (lives_any _).mono ?_; rintro e w3 ⟨rfl, hb3⟩))
          go_ret
          exact ⟨rfl, (hbel1.trans hb2).trans (hb3.mono (Nat.le_trans hsz1 hb2.size))⟩
      · have hne : (er != 0) = true := bne_iff_ne.2 he
        clear he
        go_wp2_with (first
          | (go_at_call 11; refine (lives_any _).mono ?_; rintro e w3 ⟨rfl, hb3⟩))
        go_ret
        exact ⟨rfl, hbel1.trans (hb3.mono hsz1)⟩
    · have hkn : k = s.size := by omega
      have hsz := hbel.size
      subst hkn
      go_wp2_with (first
        | (go_at_call 11; refine (lives_any _).mono ?_; rintro e w3 ⟨rfl, hb3⟩))
      go_ret
      exact ⟨rfl, hbel.trans (hb3.mono hsz)⟩
end Go.Proofs.Ytffocpkbmflijaa
