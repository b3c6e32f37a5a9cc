/-
  Quoted strings as plain functions on bytes: the machine of steps, its run, what is printed, and that it is read again. No program is read here.
-/
import Derived.Test.YtmboonmefmobcaaU8
namespace Go.Proofs.Ytmboonmefmobcaa
set_option maxRecDepth 8000

/-- What was said so far; what the next byte may be (0: anything, 1: behind a stroke, 2: a digit, 3: nothing); of digits how many there were, and their number. -/
structure QS where
  xs : List UInt8
  st : Int
  d : Int
  n : Int
structure QR where
  done : Bool
  e : Int
  q : QS

def escI (b : Int) : Int := if b = 34 ∨ b = 92 ∨ b = 47 then b else if b = 110 then 10 else if b = 116 then 9 else if b = 114 then 13 else if b = 98 then 8 else if b = 102 then 12 else -1
def hexI (b : Int) : Int := if 48 ≤ b ∧ b ≤ 57 then b - 48 else if 97 ≤ b ∧ b ≤ 102 then b - 97 + 10 else if 65 ≤ b ∧ b ≤ 70 then b - 65 + 10 else -1
def plainQ (xs : List UInt8) : QS := ⟨xs, 0, 0, 0⟩
def qAdd (q : QS) (ch : List UInt8) : QR := if 48 < q.xs.length + ch.length then ⟨false, 4, q⟩ else ⟨false, 0, plainQ (q.xs ++ ch)⟩
def qLetter (q : QS) (b : Int) : QR := if b = 117 then ⟨false, 0, ⟨q.xs, 2, 0, 0⟩⟩ else if escI b < 0 then ⟨false, 9, q⟩ else qAdd q [b8 (escI b)]
def qDigit (q : QS) (b : Int) : QR :=
  if hexI b < 0 then ⟨false, 9, q⟩ else if q.d < 3 then ⟨false, 0, ⟨q.xs, 2, q.d + 1, q.n * 16 + hexI b⟩⟩
  else if mayB (q.n * 16 + hexI b) = true then qAdd q (putL (q.n * 16 + hexI b)) else ⟨false, 9, q⟩
def qPlain (q : QS) (b : Int) : QR :=
  if b < 32 then ⟨false, 2, q⟩ else if b = 34 then ⟨true, 0, ⟨q.xs, 3, 0, 0⟩⟩ else if b = 92 then ⟨false, 0, ⟨q.xs, 1, 0, 0⟩⟩ else qAdd q [b8 b]
def qStep (q : QS) (b : Int) : QR := if q.st = 1 then qLetter q b else if q.st = 2 then qDigit q b else if q.st = 3 then ⟨false, 2, q⟩ else qPlain q b

def QInv (q : QS) : Prop := q.xs.length ≤ 48 ∧ (q.st = 0 ∨ q.st = 1 ∨ q.st = 3 ∨ (q.st = 2 ∧ 0 ≤ q.n ∧ ((q.d = 0 ∧ q.n = 0) ∨ (q.d = 1 ∧ q.n < 16) ∨ (q.d = 2 ∧ q.n < 256) ∨ (q.d = 3 ∧ q.n < 4096))))

theorem hexI_lt (b : Int) : hexI b < 16 := by unfold hexI; repeat' split <;> omega
theorem escI_lt (b : Int) : escI b < 256 := by unfold escI; repeat' split <;> omega
theorem qInv0 : QInv (plainQ []) := ⟨by simp [plainQ], .inl rfl⟩
theorem qInv_plain {xs : List UInt8} (h : xs.length ≤ 48) : QInv (plainQ xs) := ⟨h, .inl rfl⟩
theorem qInv_add {q : QS} {ch : List UInt8} (h : QInv q) : QInv (qAdd q ch).q := by
  unfold qAdd
  split
  · exact h
  · exact qInv_plain (by simp; omega)
theorem qInv_step {q : QS} {b : Int} (h : QInv q) : QInv (qStep q b).q := by
  unfold qStep
  split
  · unfold qLetter
    split
    · exact ⟨h.1, .inr (.inr (.inr ⟨rfl, by simp, .inl ⟨rfl, rfl⟩⟩))⟩
    · split
      · exact h
      · exact qInv_add h
  · split
    · unfold qDigit
      have := hexI_lt b
      rename_i h2
      obtain ⟨hl, hs⟩ := h
      split
      · exact ⟨hl, hs⟩
      · split
        · refine ⟨hl, .inr (.inr (.inr ⟨rfl, ?_⟩))⟩
          simp only
          omega
        · split
          · exact qInv_add ⟨hl, hs⟩
          · exact ⟨hl, hs⟩
    · split
      · exact h
      · unfold qPlain
        split
        · exact h
        · split
          · exact ⟨h.1, .inr (.inr (.inl rfl))⟩
          · split
            · exact ⟨h.1, .inr (.inl rfl)⟩
            · exact qInv_add h

/-- How a run ends: what was said, how many bytes were taken, whether the last was the last quote, an error. -/
structure QE where
  text : List UInt8
  n : Nat
  done : Bool
  e : Int

def qRun : QS → Nat → List UInt8 → QE
  | q, i, [] => ⟨q.xs, i, false, 0⟩
  | q, i, b :: t => if (qStep q (b.toNat : Int)).done = true ∨ (qStep q (b.toNat : Int)).e ≠ 0 then ⟨(qStep q (b.toNat : Int)).q.xs, i, (qStep q (b.toNat : Int)).done, (qStep q (b.toNat : Int)).e⟩ else qRun (qStep q (b.toNat : Int)).q (i + 1) t
def qAll (l : List UInt8) : QE := qRun (plainQ []) 0 l

theorem qRun_on {q q' : QS} {i : Nat} {b : UInt8} {t : List UInt8} (h : qStep q (b.toNat : Int) = ⟨false, 0, q'⟩) : qRun q i (b :: t) = qRun q' (i + 1) t := by
  rw [qRun, h]; simp
theorem qRun_done {q q' : QS} {i : Nat} {b : UInt8} {t : List UInt8} (h : qStep q (b.toNat : Int) = ⟨true, 0, q'⟩) : qRun q i (b :: t) = ⟨q'.xs, i, true, 0⟩ := by
  rw [qRun, h]; simp
theorem qRun_err {q q' : QS} {i : Nat} {b : UInt8} {t : List UInt8} {d : Bool} {e : Int} (h : qStep q (b.toNat : Int) = ⟨d, e, q'⟩) (he : e ≠ 0) : qRun q i (b :: t) = ⟨q'.xs, i, d, e⟩ := by
  rw [qRun, h]; simp [he]

theorem qAdd_ok {q : QS} {ch : List UInt8} (h : q.xs.length + ch.length ≤ 48) : qAdd q ch = ⟨false, 0, plainQ (q.xs ++ ch)⟩ := by unfold qAdd; rw [if_neg (by omega)]

/-! What is printed. -/
def hexD (n : Int) : Int := if n < 10 then 48 + n else 87 + n
def prB (b : UInt8) : List UInt8 :=
  if (b.toNat : Int) = 34 ∨ (b.toNat : Int) = 92 then [92, b] else if (b.toNat : Int) = 10 then [92, 110] else if (b.toNat : Int) = 9 then [92, 116] else if (b.toNat : Int) = 13 then [92, 114]
  else if (b.toNat : Int) < 32 then [92, 117, 48, 48, b8 (hexD (b.toNat / 16)), b8 (hexD (b.toNat % 16))] else [b]
def prAll (l : List UInt8) : List UInt8 := l.flatMap prB
def printL (l : List UInt8) : List UInt8 := 34 :: (prAll l ++ [34])

theorem hexI_hexD (n : Int) (h0 : 0 ≤ n) (h1 : n < 16) : hexI (hexD n) = n := by
  unfold hexD
  split
  · unfold hexI; rw [if_pos (by omega)]; omega
  · unfold hexI; rw [if_neg (by omega), if_pos (by omega)]; omega
theorem hexD_rg (n : Int) (h0 : 0 ≤ n) (h1 : n < 16) : 0 ≤ hexD n ∧ hexD n < 256 := by unfold hexD; split <;> omega

theorem b8_of (b : UInt8) : b8 (b.toNat : Int) = b := by unfold b8; simp
theorem prB_len (b : UInt8) : 1 ≤ (prB b).length ∧ (prB b).length ≤ 6 := by
  unfold prB
  repeat' split
  all_goals simp

theorem step_stroke (xs : List UInt8) : qStep (plainQ xs) 92 = ⟨false, 0, ⟨xs, 1, 0, 0⟩⟩ := rfl
theorem step_u (xs : List UInt8) : qStep ⟨xs, 1, 0, 0⟩ 117 = ⟨false, 0, ⟨xs, 2, 0, 0⟩⟩ := rfl
theorem step_letter (xs : List UInt8) (b : Int) (h : b ≠ 117) (he : 0 ≤ escI b) (hl : xs.length + 1 ≤ 48) : qStep ⟨xs, 1, 0, 0⟩ b = ⟨false, 0, plainQ (xs ++ [b8 (escI b)])⟩ := by
  show qLetter _ b = _
  unfold qLetter
  rw [if_neg h, if_neg (by omega)]
  exact qAdd_ok (by simpa using hl)
theorem step_digit (xs : List UInt8) (d n v : Int) (h0 : 0 ≤ v) (h1 : v < 16) (hd : d < 3) : qStep ⟨xs, 2, d, n⟩ (hexD v) = ⟨false, 0, ⟨xs, 2, d + 1, n * 16 + v⟩⟩ := by
  show qDigit _ _ = _
  unfold qDigit
  rw [hexI_hexD v h0 h1, if_neg (by omega), if_pos hd]
theorem step_last (xs : List UInt8) (n v : Int) (h0 : 0 ≤ v) (h1 : v < 16) (hm : mayB (n * 16 + v) = true) (hl : xs.length + (putL (n * 16 + v)).length ≤ 48) : qStep ⟨xs, 2, 3, n⟩ (hexD v) = ⟨false, 0, plainQ (xs ++ putL (n * 16 + v))⟩ := by
  show qDigit _ _ = _
  unfold qDigit
  rw [hexI_hexD v h0 h1, if_neg (by omega), if_neg (show ¬ (3 : Int) < 3 by omega), if_pos hm]
  exact qAdd_ok hl
theorem step_char (xs : List UInt8) (b : Int) (h : 32 ≤ b) (h1 : b ≠ 34) (h2 : b ≠ 92) (hl : xs.length + 1 ≤ 48) : qStep (plainQ xs) b = ⟨false, 0, plainQ (xs ++ [b8 b])⟩ := by
  show qPlain _ b = _
  unfold qPlain
  rw [if_neg (by omega), if_neg h1, if_neg h2]
  exact qAdd_ok (by simpa [plainQ] using hl)

theorem run_pr (xs : List UInt8) (b : UInt8) (i : Nat) (rest : List UInt8) (hl : xs.length + 1 ≤ 48) : qRun (plainQ xs) i (prB b ++ rest) = qRun (plainQ (xs ++ [b])) (i + (prB b).length) rest := by
  have hb := byte_le b
  unfold prB
  split
  · rename_i h
    have e : escI (b.toNat : Int) = b.toNat := by unfold escI; rw [if_pos (by omega)]
    have s2 := step_letter xs (b.toNat : Int) (by omega) (by omega) hl
    rw [e, b8_of] at s2
    simp only [List.cons_append, List.nil_append]
    rw [qRun_on (b := 92) (step_stroke xs), qRun_on s2]
    rfl
  · split
    · rename_i h
      have s2 := step_letter xs 110 (by decide) (by decide) hl
      rw [show escI 110 = (b.toNat : Int) from by rw [h]; rfl, b8_of] at s2
      simp only [List.cons_append, List.nil_append]
      rw [qRun_on (b := 92) (step_stroke xs), qRun_on (b := 110) s2]
      rfl
    · split
      · rename_i h
        have s2 := step_letter xs 116 (by decide) (by decide) hl
        rw [show escI 116 = (b.toNat : Int) from by rw [h]; rfl, b8_of] at s2
        simp only [List.cons_append, List.nil_append]
        rw [qRun_on (b := 92) (step_stroke xs), qRun_on (b := 116) s2]
        rfl
      · split
        · rename_i h
          have s2 := step_letter xs 114 (by decide) (by decide) hl
          rw [show escI 114 = (b.toNat : Int) from by rw [h]; rfl, b8_of] at s2
          simp only [List.cons_append, List.nil_append]
          rw [qRun_on (b := 92) (step_stroke xs), qRun_on (b := 114) s2]
          rfl
        · split
          · rename_i h
            have q0 : 0 ≤ (b.toNat : Int) / 16 ∧ (b.toNat : Int) / 16 < 16 := by omega
            have q1 : 0 ≤ (b.toNat : Int) % 16 ∧ (b.toNat : Int) % 16 < 16 := by omega
            have r0 := hexD_rg _ q0.1 q0.2
            have r1 := hexD_rg _ q1.1 q1.2
            have s3 : qStep ⟨xs, 2, 0, 0⟩ 48 = ⟨false, 0, ⟨xs, 2, 1, 0⟩⟩ := step_digit xs 0 0 0 (by decide) (by decide) (by decide)
            have s4 : qStep ⟨xs, 2, 1, 0⟩ 48 = ⟨false, 0, ⟨xs, 2, 2, 0⟩⟩ := step_digit xs 1 0 0 (by decide) (by decide) (by decide)
            have s5 : qStep ⟨xs, 2, 2, 0⟩ (hexD ((b.toNat : Int) / 16)) = ⟨false, 0, ⟨xs, 2, 3, 0 * 16 + (b.toNat : Int) / 16⟩⟩ := step_digit xs 2 0 _ q0.1 q0.2 (by decide)
            have hv : (0 * 16 + (b.toNat : Int) / 16) * 16 + (b.toNat : Int) % 16 = b.toNat := by omega
            have hp : putL (b.toNat : Int) = [b] := by unfold putL; rw [if_pos (by omega), b8_of]
            have s6 := step_last xs (0 * 16 + (b.toNat : Int) / 16) _ q1.1 q1.2 (by rw [hv]; unfold mayB; rw [decide_eq_true_iff]; omega) (by rw [hv, hp]; exact hl)
            rw [hv, hp] at s6
            rw [← b8_nat _ r0.1 r0.2] at s5
            rw [← b8_nat _ r1.1 r1.2] at s6
            simp only [List.cons_append, List.nil_append]
            rw [qRun_on (b := 92) (step_stroke xs), qRun_on (b := 117) (step_u xs), qRun_on (b := 48) s3, qRun_on (b := 48) s4, qRun_on s5, qRun_on s6]
            rfl
          · have s1 := step_char xs (b.toNat : Int) (by omega) (by omega) (by omega) hl
            rw [b8_of] at s1
            simp only [List.cons_append, List.nil_append]
            rw [qRun_on s1]
            rfl

theorem run_prAll (l : List UInt8) : ∀ (xs : List UInt8) (i : Nat) (rest : List UInt8), xs.length + l.length ≤ 48 → qRun (plainQ xs) i (prAll l ++ rest) = qRun (plainQ (xs ++ l)) (i + (prAll l).length) rest := by
  induction l with
  | nil => intro xs i rest _; simp [prAll]
  | cons b t ih =>
    intro xs i rest h
    simp only [List.length_cons] at h
    have e : prAll (b :: t) = prB b ++ prAll t := by simp [prAll]
    rw [e, List.append_assoc, run_pr xs b i _ (by omega), ih (xs ++ [b]) _ rest (by simp; omega)]
    simp only [List.append_assoc, List.cons_append, List.nil_append, List.length_append, Nat.add_assoc]

theorem quote_step (xs : List UInt8) : qStep (plainQ xs) 34 = ⟨true, 0, ⟨xs, 3, 0, 0⟩⟩ := rfl
/-- What is printed says what it was made of, and ends just at its last byte. -/
theorem all_print (l : List UInt8) (h : l.length ≤ 48) : qAll ((printL l).drop 1) = ⟨l, (printL l).length - 2, true, 0⟩ := by
  unfold qAll printL
  rw [List.drop_succ_cons, List.drop_zero, run_prAll l [] 0 [34] (by simpa using h)]
  rw [qRun_done (b := 34) (quote_step _)]
  simp
theorem print_inj {a b : List UInt8} (ha : a.length ≤ 48) (hb : b.length ≤ 48) (h : printL a = printL b) : a = b := by
  have e1 := all_print a ha
  have e2 := all_print b hb
  rw [h, e2] at e1
  injection e1 with e1
  exact e1.symm
theorem prAll_len (l : List UInt8) : l.length ≤ (prAll l).length ∧ (prAll l).length ≤ 6 * l.length := by
  induction l with
  | nil => simp [prAll]
  | cons b t ih =>
    have e : prAll (b :: t) = prB b ++ prAll t := by simp [prAll]
    have := prB_len b
    rw [e, List.length_append, List.length_cons]
    omega
theorem prAll_snoc (l : List UInt8) (b : UInt8) : prAll (l ++ [b]) = prAll l ++ prB b := by simp [prAll]
theorem printL_len (l : List UInt8) : (printL l).length = (prAll l).length + 2 := by simp [printL]
end Go.Proofs.Ytmboonmefmobcaa
