/-
  quote: Step is the machine's step; the steps of a text.
-/
import Derived.Test.YtmboonmefmobcaaQuoteD
import Derived.Lib.Strings
namespace Go.Proofs.Ytmboonmefmobcaa
open Go.RowKit Go.Maps
set_option maxRecDepth 100000

def StepEnd (r : QR) : Ending := .returned (.tuple #[.bool r.done, .int .i64 r.e])

theorem qstep_any (w : World) (g : Nat) (q : QS) (b : Int) (h0 : 0 ≤ b) (h1 : b ≤ 255) (hq : QAt w g q) (hinv : QInv q) :
    Calls Try.prog 14 #[.pointer (some ⟨g, 0, none⟩), .int .u8 b] w fun e w' => e = StepEnd (qStep q b) ∧ Stepd w g (qStep q b) w' := by
  have hlt := hq.lt
  have hq' := hq
  obtain ⟨d, n, hr, h2⟩ := hq'
  have hr' := hr
  obtain ⟨v, hk, _⟩ := hr'
  have c1 : w.cell? ⟨g, 1, none⟩ = some (.int .i64 q.st) := hk.cell 1
  have f1 := hk.frozen 1
  clear hk
  obtain ⟨hl, hs⟩ := hinv
  by_cases s1 : q.st = 1
  · have e : qStep q b = qLetter q b := by unfold qStep; rw [if_pos s1]
    rw [e]
    rw [s1] at c1
    have hd : (qLetter q b).done = false := by
      unfold qLetter qAdd
      repeat' split
      all_goals rfl
    unfold StepEnd
    rw [hd]
    clear s1 e hd hr h2 hs
    go_enter Try.func14, Try.ntmps14
    go_wp2_with (first
      | (go_at_call 20; refine (letter_any _ g q b h0 h1 hq hl).mono ?_; rintro e w1 ⟨rfl, hs1⟩))
    go_ret2
    exact ⟨rfl, hs1⟩
  by_cases s2 : q.st = 2
  · have e : qStep q b = qDigit q b := by unfold qStep; rw [if_neg s1, if_pos s2]
    rw [e]
    rw [s2] at c1
    have hd : (qDigit q b).done = false := by
      unfold qDigit qAdd
      repeat' split
      all_goals rfl
    unfold StepEnd
    rw [hd]
    have HS := Lib.hid s2
    have HI := Lib.hid (show QInv q from ⟨hl, hs⟩)
    clear s1 s2 e hd hr h2 hs
    go_enter Try.func14, Try.ntmps14
    go_wp2_with (first
      | (go_at_call 21; refine (digit_any _ g q b h0 h1 hq HS.out HI.out).mono ?_; rintro e w1 ⟨rfl, hs1⟩))
    go_ret2
    exact ⟨rfl, hs1⟩
  by_cases s3 : q.st = 3
  · have e : qStep q b = ⟨false, 2, q⟩ := by unfold qStep; rw [if_neg s1, if_neg s2, if_pos s3]
    rw [e]
    rw [s3] at c1
    clear s1 s2 s3 e hr h2 hs
    go_enter Try.func14, Try.ntmps14
    go_wp2
    go_ret2
    exact ⟨rfl, hq, Below.refl _ _⟩
  have s0 : q.st = 0 := by omega
  have e : qStep q b = qPlain q b := by unfold qStep; rw [if_neg s1, if_neg s2, if_neg s3]
  rw [e]
  rw [s0] at c1
  clear e hs s1 s2 s3
  by_cases b1 : b < 32
  · have e : qPlain q b = ⟨false, 2, q⟩ := by unfold qPlain; rw [if_pos b1]
    rw [e]
    clear e
    go_enter Try.func14, Try.ntmps14
    go_wp2
    go_ret2
    exact ⟨rfl, hq, Below.refl _ _⟩
  by_cases b2 : b = 34
  · have e : qPlain q b = ⟨true, 0, ⟨q.xs, 3, 0, 0⟩⟩ := by unfold qPlain; rw [if_neg b1, if_pos b2]
    rw [e]
    clear e b1
    subst b2
    go_enter Try.func14, Try.ntmps14
    go_wp2
    go_ret2
    exact ⟨rfl, ⟨_, _, hr.set 3, fun h => by cases h⟩, (Below.refl g w).setCell (Nat.le_refl g) _⟩
  by_cases b3 : b = 92
  · have e : qPlain q b = ⟨false, 0, ⟨q.xs, 1, 0, 0⟩⟩ := by unfold qPlain; rw [if_neg b1, if_neg b2, if_pos b3]
    rw [e]
    clear e b1 b2
    subst b3
    go_enter Try.func14, Try.ntmps14
    go_wp2
    go_ret2
    exact ⟨rfl, ⟨_, _, hr.set 1, fun h => by cases h⟩, (Below.refl g w).setCell (Nat.le_refl g) _⟩
  have e : qPlain q b = qAdd q [b8 b] := by unfold qPlain; rw [if_neg b1, if_neg b2, if_neg b3]
  have e0 : (qAdd q [b8 b]).e = addE q.xs [b8 b] := by rw [qadd_eq]
  have e1 : (qAdd q [b8 b]).done = false := by rw [qadd_eq]
  have n2 : (b == 34) = false := beq_eq_false_iff_ne.2 b2
  have n3 : (b == 92) = false := beq_eq_false_iff_ne.2 b3
  have hra : QRaw (w.alloc (.cells #[.int .u8 b] 5)) g q.xs q.st d n := hr.below ((Below.refl _ _).alloc (Nat.le_refl _) _)
  rw [e]
  unfold StepEnd
  rw [e0, e1]
  have H0 := Lib.hid s0
  clear e e0 e1 b2 b3 s0 h2
  go_enter Try.func14, Try.ntmps14
  go_wp2_with fail
  refine (add_any _ g q.xs q.st d n hra hl ⟨w.heap.size, 0, none⟩ [b8 b] 1 (by simp) ?_).mono ?_
  · have := cell_one_new w (.int .u8 b) 5
    simp only [List.map_cons, List.map_nil]
    rw [bV_b8 _ (by omega) (by omega)]
    exact this
  rintro e w1 ⟨rfl, hq1, hb1⟩
  go_wp2
  go_ret2
  refine ⟨rfl, qat_add (d := d) (n := n) (fun h => absurd h (by rw [H0.out]; decide)) ?_, ((Below.refl g w).alloc (by omega) _).trans hb1⟩
  rw [H0.out] at hq1 ⊢
  simpa using hq1
end Go.Proofs.Ytmboonmefmobcaa
