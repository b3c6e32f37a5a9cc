/-
  Quoted strings as plain functions on bytes: the machine of steps, its run, what is printed, and that it is read again. No program is read here.
  The paren syntax as a plain function on bytes: the machine, its step, its end. No program is read here.
  Contracts of the small functions of src and of its reference: pure computations on numbers.
-/
import Derived.Test.YtmimadkepflmlaaGreatDoorPaZ01
import Derived.Test.YtmimadkepflmlaaGreatDoorPaZ04
import Derived.Test.YtmimadkepflmlaaGreatDoorPaZ09
import Derived.Test.YtmimadkepflmlaaGreatDoorPaZ02
import Derived.Test.YtmimadkepflmlaaGreatDoorChecked
import Derived.Test.YtmimadkepflmlaaGreatDoorPaZ05
import Derived.WalkKit
import Derived.WalkSpells
import Derived.WalkLawsBesides
import Derived.Lib.Hide
namespace Go.Proofs.YtmimadkepflmlaaGreatDoor.Qt
set_option maxRecDepth 8000

/-- What was said so far; what the next byte may be (0: anything, 1: behind a stroke, 2: a digit, 3: nothing); of digits how many there were, and their number. -/
structure QS where
  xs : List UInt8
  st : Int
  d : Int
  n : Int
structure QR where
  done : Bool
  e : Int
  q : QS

def escI (b : Int) : Int := if b = 34 ∨ b = 92 ∨ b = 47 then b else if b = 110 then 10 else if b = 116 then 9 else if b = 114 then 13 else if b = 98 then 8 else if b = 102 then 12 else -1
def hexI (b : Int) : Int := if 48 ≤ b ∧ b ≤ 57 then b - 48 else if 97 ≤ b ∧ b ≤ 102 then b - 97 + 10 else if 65 ≤ b ∧ b ≤ 70 then b - 65 + 10 else -1
def plainQ (xs : List UInt8) : QS := ⟨xs, 0, 0, 0⟩
def qAdd (q : QS) (ch : List UInt8) : QR := if 48 < q.xs.length + ch.length then ⟨false, 4, q⟩ else ⟨false, 0, plainQ (q.xs ++ ch)⟩
def qLetter (q : QS) (b : Int) : QR := if b = 117 then ⟨false, 0, ⟨q.xs, 2, 0, 0⟩⟩ else if escI b < 0 then ⟨false, 9, q⟩ else qAdd q [b8 (escI b)]
def qDigit (q : QS) (b : Int) : QR :=
  if hexI b < 0 then ⟨false, 9, q⟩ else if q.d < 3 then ⟨false, 0, ⟨q.xs, 2, q.d + 1, q.n * 16 + hexI b⟩⟩
  else if mayB (q.n * 16 + hexI b) = true then qAdd q (putL (q.n * 16 + hexI b)) else ⟨false, 9, q⟩
def qPlain (q : QS) (b : Int) : QR :=
  if b < 32 then ⟨false, 2, q⟩ else if b = 34 then ⟨true, 0, ⟨q.xs, 3, 0, 0⟩⟩ else if b = 92 then ⟨false, 0, ⟨q.xs, 1, 0, 0⟩⟩ else qAdd q [b8 b]
def qStep (q : QS) (b : Int) : QR := if q.st = 1 then qLetter q b else if q.st = 2 then qDigit q b else if q.st = 3 then ⟨false, 2, q⟩ else qPlain q b

def QInv (q : QS) : Prop := q.xs.length ≤ 48 ∧ (q.st = 0 ∨ q.st = 1 ∨ q.st = 3 ∨ (q.st = 2 ∧ 0 ≤ q.n ∧ ((q.d = 0 ∧ q.n = 0) ∨ (q.d = 1 ∧ q.n < 16) ∨ (q.d = 2 ∧ q.n < 256) ∨ (q.d = 3 ∧ q.n < 4096))))

theorem hexI_lt (b : Int) : hexI b < 16 := by unfold hexI; repeat' split <;> omega
theorem escI_lt (b : Int) : escI b < 256 := by unfold escI; repeat' split <;> omega
theorem qInv0 : QInv (plainQ []) := ⟨by simp [plainQ], .inl rfl⟩
theorem qInv_plain {xs : List UInt8} (h : xs.length ≤ 48) : QInv (plainQ xs) := ⟨h, .inl rfl⟩
theorem qInv_add {q : QS} {ch : List UInt8} (h : QInv q) : QInv (qAdd q ch).q := by
  unfold qAdd
  split
  · exact h
  · exact qInv_plain (by simp; omega)
theorem qInv_step {q : QS} {b : Int} (h : QInv q) : QInv (qStep q b).q := by
  unfold qStep
  split
  · unfold qLetter
    split
    · exact ⟨h.1, .inr (.inr (.inr ⟨rfl, by simp, .inl ⟨rfl, rfl⟩⟩))⟩
    · split
      · exact h
      · exact qInv_add h
  · split
    · unfold qDigit
      have := hexI_lt b
      rename_i h2
      obtain ⟨hl, hs⟩ := h
      split
      · exact ⟨hl, hs⟩
      · split
        · refine ⟨hl, .inr (.inr (.inr ⟨rfl, ?_⟩))⟩
          simp only
          omega
        · split
          · exact qInv_add ⟨hl, hs⟩
          · exact ⟨hl, hs⟩
    · split
      · exact h
      · unfold qPlain
        split
        · exact h
        · split
          · exact ⟨h.1, .inr (.inr (.inl rfl))⟩
          · split
            · exact ⟨h.1, .inr (.inl rfl)⟩
            · exact qInv_add h

/-- How a run ends: what was said, how many bytes were taken, whether the last was the last quote, an error. -/
structure QE where
  text : List UInt8
  n : Nat
  done : Bool
  e : Int

def qRun : QS → Nat → List UInt8 → QE
  | q, i, [] => ⟨q.xs, i, false, 0⟩
  | q, i, b :: t => if (qStep q (b.toNat : Int)).done = true ∨ (qStep q (b.toNat : Int)).e ≠ 0 then ⟨(qStep q (b.toNat : Int)).q.xs, i, (qStep q (b.toNat : Int)).done, (qStep q (b.toNat : Int)).e⟩ else qRun (qStep q (b.toNat : Int)).q (i + 1) t
def qAll (l : List UInt8) : QE := qRun (plainQ []) 0 l

theorem qRun_on {q q' : QS} {i : Nat} {b : UInt8} {t : List UInt8} (h : qStep q (b.toNat : Int) = ⟨false, 0, q'⟩) : qRun q i (b :: t) = qRun q' (i + 1) t := by
  rw [qRun, h]; simp
theorem qRun_done {q q' : QS} {i : Nat} {b : UInt8} {t : List UInt8} (h : qStep q (b.toNat : Int) = ⟨true, 0, q'⟩) : qRun q i (b :: t) = ⟨q'.xs, i, true, 0⟩ := by
  rw [qRun, h]; simp
theorem qRun_err {q q' : QS} {i : Nat} {b : UInt8} {t : List UInt8} {d : Bool} {e : Int} (h : qStep q (b.toNat : Int) = ⟨d, e, q'⟩) (he : e ≠ 0) : qRun q i (b :: t) = ⟨q'.xs, i, d, e⟩ := by
  rw [qRun, h]; simp [he]

theorem qAdd_ok {q : QS} {ch : List UInt8} (h : q.xs.length + ch.length ≤ 48) : qAdd q ch = ⟨false, 0, plainQ (q.xs ++ ch)⟩ := by unfold qAdd; rw [if_neg (by omega)]

/-! What is printed. -/
def hexD (n : Int) : Int := if n < 10 then 48 + n else 87 + n
def prB (b : UInt8) : List UInt8 :=
  if (b.toNat : Int) = 34 ∨ (b.toNat : Int) = 92 then [92, b] else if (b.toNat : Int) = 10 then [92, 110] else if (b.toNat : Int) = 9 then [92, 116] else if (b.toNat : Int) = 13 then [92, 114]
  else if (b.toNat : Int) < 32 then [92, 117, 48, 48, b8 (hexD (b.toNat / 16)), b8 (hexD (b.toNat % 16))] else [b]
def prAll (l : List UInt8) : List UInt8 := l.flatMap prB
def printL (l : List UInt8) : List UInt8 := 34 :: (prAll l ++ [34])

theorem hexI_hexD (n : Int) (h0 : 0 ≤ n) (h1 : n < 16) : hexI (hexD n) = n := by
  unfold hexD
  split
  · unfold hexI; rw [if_pos (by omega)]; omega
  · unfold hexI; rw [if_neg (by omega), if_pos (by omega)]; omega
theorem hexD_rg (n : Int) (h0 : 0 ≤ n) (h1 : n < 16) : 0 ≤ hexD n ∧ hexD n < 256 := by unfold hexD; split <;> omega

theorem b8_of (b : UInt8) : b8 (b.toNat : Int) = b := by unfold b8; simp
theorem prB_len (b : UInt8) : 1 ≤ (prB b).length ∧ (prB b).length ≤ 6 := by
  unfold prB
  repeat' split
  all_goals simp

theorem step_stroke (xs : List UInt8) : qStep (plainQ xs) 92 = ⟨false, 0, ⟨xs, 1, 0, 0⟩⟩ := rfl
theorem step_u (xs : List UInt8) : qStep ⟨xs, 1, 0, 0⟩ 117 = ⟨false, 0, ⟨xs, 2, 0, 0⟩⟩ := rfl
theorem step_letter (xs : List UInt8) (b : Int) (h : b ≠ 117) (he : 0 ≤ escI b) (hl : xs.length + 1 ≤ 48) : qStep ⟨xs, 1, 0, 0⟩ b = ⟨false, 0, plainQ (xs ++ [b8 (escI b)])⟩ := by
  show qLetter _ b = _
  unfold qLetter
  rw [if_neg h, if_neg (by omega)]
  exact qAdd_ok (by simpa using hl)
theorem step_digit (xs : List UInt8) (d n v : Int) (h0 : 0 ≤ v) (h1 : v < 16) (hd : d < 3) : qStep ⟨xs, 2, d, n⟩ (hexD v) = ⟨false, 0, ⟨xs, 2, d + 1, n * 16 + v⟩⟩ := by
  show qDigit _ _ = _
  unfold qDigit
  rw [hexI_hexD v h0 h1, if_neg (by omega), if_pos hd]
theorem step_last (xs : List UInt8) (n v : Int) (h0 : 0 ≤ v) (h1 : v < 16) (hm : mayB (n * 16 + v) = true) (hl : xs.length + (putL (n * 16 + v)).length ≤ 48) : qStep ⟨xs, 2, 3, n⟩ (hexD v) = ⟨false, 0, plainQ (xs ++ putL (n * 16 + v))⟩ := by
  show qDigit _ _ = _
  unfold qDigit
  rw [hexI_hexD v h0 h1, if_neg (by omega), if_neg (show ¬ (3 : Int) < 3 by omega), if_pos hm]
  exact qAdd_ok hl
theorem step_char (xs : List UInt8) (b : Int) (h : 32 ≤ b) (h1 : b ≠ 34) (h2 : b ≠ 92) (hl : xs.length + 1 ≤ 48) : qStep (plainQ xs) b = ⟨false, 0, plainQ (xs ++ [b8 b])⟩ := by
  show qPlain _ b = _
  unfold qPlain
  rw [if_neg (by omega), if_neg h1, if_neg h2]
  exact qAdd_ok (by simpa [plainQ] using hl)

theorem run_pr (xs : List UInt8) (b : UInt8) (i : Nat) (rest : List UInt8) (hl : xs.length + 1 ≤ 48) : qRun (plainQ xs) i (prB b ++ rest) = qRun (plainQ (xs ++ [b])) (i + (prB b).length) rest := by
  have hb := byte_le b
  unfold prB
  split
  · rename_i h
    have e : escI (b.toNat : Int) = b.toNat := by unfold escI; rw [if_pos (by omega)]
    have s2 := step_letter xs (b.toNat : Int) (by omega) (by omega) hl
    rw [e, b8_of] at s2
    simp only [List.cons_append, List.nil_append]
    rw [qRun_on (b := 92) (step_stroke xs), qRun_on s2]
    rfl
  · split
    · rename_i h
      have s2 := step_letter xs 110 (by decide) (by decide) hl
      rw [show escI 110 = (b.toNat : Int) from by rw [h]; rfl, b8_of] at s2
      simp only [List.cons_append, List.nil_append]
      rw [qRun_on (b := 92) (step_stroke xs), qRun_on (b := 110) s2]
      rfl
    · split
      · rename_i h
        have s2 := step_letter xs 116 (by decide) (by decide) hl
        rw [show escI 116 = (b.toNat : Int) from by rw [h]; rfl, b8_of] at s2
        simp only [List.cons_append, List.nil_append]
        rw [qRun_on (b := 92) (step_stroke xs), qRun_on (b := 116) s2]
        rfl
      · split
        · rename_i h
          have s2 := step_letter xs 114 (by decide) (by decide) hl
          rw [show escI 114 = (b.toNat : Int) from by rw [h]; rfl, b8_of] at s2
          simp only [List.cons_append, List.nil_append]
          rw [qRun_on (b := 92) (step_stroke xs), qRun_on (b := 114) s2]
          rfl
        · split
          · rename_i h
            have q0 : 0 ≤ (b.toNat : Int) / 16 ∧ (b.toNat : Int) / 16 < 16 := by omega
            have q1 : 0 ≤ (b.toNat : Int) % 16 ∧ (b.toNat : Int) % 16 < 16 := by omega
            have r0 := hexD_rg _ q0.1 q0.2
            have r1 := hexD_rg _ q1.1 q1.2
            have s3 : qStep ⟨xs, 2, 0, 0⟩ 48 = ⟨false, 0, ⟨xs, 2, 1, 0⟩⟩ := step_digit xs 0 0 0 (by decide) (by decide) (by decide)
            have s4 : qStep ⟨xs, 2, 1, 0⟩ 48 = ⟨false, 0, ⟨xs, 2, 2, 0⟩⟩ := step_digit xs 1 0 0 (by decide) (by decide) (by decide)
            have s5 : qStep ⟨xs, 2, 2, 0⟩ (hexD ((b.toNat : Int) / 16)) = ⟨false, 0, ⟨xs, 2, 3, 0 * 16 + (b.toNat : Int) / 16⟩⟩ := step_digit xs 2 0 _ q0.1 q0.2 (by decide)
            have hv : (0 * 16 + (b.toNat : Int) / 16) * 16 + (b.toNat : Int) % 16 = b.toNat := by omega
            have hp : putL (b.toNat : Int) = [b] := by unfold putL; rw [if_pos (by omega), b8_of]
            have s6 := step_last xs (0 * 16 + (b.toNat : Int) / 16) _ q1.1 q1.2 (by rw [hv]; unfold mayB; rw [decide_eq_true_iff]; omega) (by rw [hv, hp]; exact hl)
            rw [hv, hp] at s6
            rw [← b8_nat _ r0.1 r0.2] at s5
            rw [← b8_nat _ r1.1 r1.2] at s6
            simp only [List.cons_append, List.nil_append]
            rw [qRun_on (b := 92) (step_stroke xs), qRun_on (b := 117) (step_u xs), qRun_on (b := 48) s3, qRun_on (b := 48) s4, qRun_on s5, qRun_on s6]
            rfl
          · have s1 := step_char xs (b.toNat : Int) (by omega) (by omega) (by omega) hl
            rw [b8_of] at s1
            simp only [List.cons_append, List.nil_append]
            rw [qRun_on s1]
            rfl

theorem run_prAll (l : List UInt8) : ∀ (xs : List UInt8) (i : Nat) (rest : List UInt8), xs.length + l.length ≤ 48 → qRun (plainQ xs) i (prAll l ++ rest) = qRun (plainQ (xs ++ l)) (i + (prAll l).length) rest := by
  induction l with
  | nil => intro xs i rest _; simp [prAll]
  | cons b t ih =>
    intro xs i rest h
    simp only [List.length_cons] at h
    have e : prAll (b :: t) = prB b ++ prAll t := by simp [prAll]
    rw [e, List.append_assoc, run_pr xs b i _ (by omega), ih (xs ++ [b]) _ rest (by simp; omega)]
    simp only [List.append_assoc, List.cons_append, List.nil_append, List.length_append, Nat.add_assoc]

theorem quote_step (xs : List UInt8) : qStep (plainQ xs) 34 = ⟨true, 0, ⟨xs, 3, 0, 0⟩⟩ := rfl
/-- What is printed says what it was made of, and ends just at its last byte. -/
theorem all_print (l : List UInt8) (h : l.length ≤ 48) : qAll ((printL l).drop 1) = ⟨l, (printL l).length - 2, true, 0⟩ := by
  unfold qAll printL
  rw [List.drop_succ_cons, List.drop_zero, run_prAll l [] 0 [34] (by simpa using h)]
  rw [qRun_done (b := 34) (quote_step _)]
  simp
theorem print_inj {a b : List UInt8} (ha : a.length ≤ 48) (hb : b.length ≤ 48) (h : printL a = printL b) : a = b := by
  have e1 := all_print a ha
  have e2 := all_print b hb
  rw [h, e2] at e1
  injection e1 with e1
  exact e1.symm
theorem prAll_len (l : List UInt8) : l.length ≤ (prAll l).length ∧ (prAll l).length ≤ 6 * l.length := by
  induction l with
  | nil => simp [prAll]
  | cons b t ih =>
    have e : prAll (b :: t) = prB b ++ prAll t := by simp [prAll]
    have := prB_len b
    rw [e, List.length_append, List.length_cons]
    omega
theorem prAll_snoc (l : List UInt8) (b : UInt8) : prAll (l ++ [b]) = prAll l ++ prB b := by simp [prAll]
theorem printL_len (l : List UInt8) : (printL l).length = (prAll l).length + 2 := by simp [printL]
end Go.Proofs.YtmimadkepflmlaaGreatDoor.Qt
namespace Go.Proofs.YtmimadkepflmlaaGreatDoor
set_option maxRecDepth 100000
set_option linter.unusedSectionVars false
variable [Tab]

/-- The machine: the token in which the next byte stands; what is due; the kinds of what is open; what the open string is for; the open number; the open attribute's name; the open string; the Check of the attributes' names. -/
structure Pm where
  wi : Int
  du : Int
  op : List Int
  uk : Int
  un : Int
  nm : ByteArray
  at' : ByteArray
  q : Qt.QS
  sa : List Pt
def pm0 : Pm := ⟨0, 0, [0], 0, 0, ⟨#[]⟩, ⟨#[]⟩, Qt.plainQ [], []⟩
structure Ps where
  m : Pm
  st : List Pt
  l : List Ev
structure Pr where
  b : Ps
  e : Int
def ps0 : Ps := ⟨pm0, [topP], []⟩
def tellP (m : Pm) (st : List Pt) (l : List Ev) (x : Ev) : Pr := ⟨⟨m, stepS st x, tellL st l x⟩, stepE st x⟩
def topI (op : List Int) : Int := op.getLastD 0
def anyP (m : Pm) : Bool := if topI m.op = 0 ∨ topI m.op = 5 then decide (m.du = 0) else if topI m.op = 7 then decide (m.du = 1) else false
def endP (m : Pm) : Bool := decide ((m.du = 0 ∨ m.du = 3 ∨ m.du = 6) ∧ topI m.op ≠ 0)
def veP (op : List Int) : Int := if topI op = 0 then 7 else 0
def scalarP (s : Ps) (x : Ev) : Pr := tellP { s.m with du := veP s.m.op } s.st s.l x
def innerP (s : Ps) (k : Int) : Pr := tellP { s.m with op := s.m.op ++ [k], du := 0 } s.st s.l (bare k)
def elemP (s : Ps) : Pr := if 6 < s.m.op.length then ⟨s, 5⟩ else ⟨{ s with m := { s.m with op := s.m.op ++ [10], du := 2 } }, 0⟩
def endK (k : Int) : Int := if k = 5 then 6 else if k = 7 then 9 else 12
def closeP (s : Ps) : Pr := tellP { s.m with op := s.m.op.dropLast, du := veP s.m.op.dropLast } s.st s.l (bare (endK (topI s.m.op)))
def endNumP (s : Ps) : Pr :=
  if endC s.m.nm ≠ 0 then ⟨{ s with m := { s.m with nm := ⟨#[]⟩ } }, endC s.m.nm⟩
  else scalarP { s with m := { s.m with nm := ⟨#[]⟩, wi := 0 } } ⟨3, endS s.m.nm, ⟨#[]⟩⟩
def addP (s : Ps) (b : UInt8) : Pr := if 30 ≤ s.m.nm.size then ⟨s, 4⟩ else ⟨{ s with m := { s.m with nm := s.m.nm ++ ⟨#[b]⟩ } }, 0⟩
def tBy : ByteArray := ⟨#[116, 114, 117, 101]⟩
def fBy : ByteArray := ⟨#[102, 97, 108, 115, 101]⟩
def markedP (s0 : Ps) (b : UInt8) : Pr :=
  let s : Ps := { s0 with m := { s0.m with wi := 0 } }
  if b.toNat = 60 then elemP s else if topI s.m.op = 10 then ⟨s, 2⟩
  else if b.toNat = 40 then innerP s 7 else if b.toNat = 110 then scalarP s ⟨1, ⟨#[]⟩, ⟨#[]⟩⟩
  else if b.toNat = 116 then scalarP s ⟨2, tBy, ⟨#[]⟩⟩ else if b.toNat = 102 then scalarP s ⟨2, fBy, ⟨#[]⟩⟩ else ⟨s, 2⟩
/-- Where a string may follow: what it is for, and what is due behind it. -/
def usesP (k d : Int) : Option (Int × Int) :=
  if k = 0 then (if d = 0 then some (4, 7) else none)
  else if k = 5 then (if d = 0 then some (4, 0) else none)
  else if k = 7 then (if d = 0 then some (8, 1) else if d = 1 then some (4, 0) else none)
  else if d = 2 then some (10, 3) else if d = 3 then some (4, 6) else if d = 4 then some (0, 5) else if d = 5 then some (11, 3) else if d = 0 then some (4, 6) else none
def stringP (s : Ps) : Pr := match usesP (topI s.m.op) s.m.du with
  | none => ⟨s, 2⟩
  | some (k, n) => ⟨{ s with m := { s.m with wi := 4, uk := k, un := n, q := Qt.plainQ [] } }, 0⟩
def beginP (s : Ps) (b : UInt8) : Pr :=
  if b.toNat = 59 then ⟨{ s with m := { s.m with wi := 1 } }, 0⟩ else if b.toNat = 34 then stringP s
  else if b.toNat = 41 ∧ endP s.m = true then closeP s
  else if b.toNat = 64 ∧ s.m.du = 3 then ⟨{ s with m := { s.m with du := 4 } }, 0⟩
  else if b.toNat = 35 ∧ (anyP s.m = true ∨ (topI s.m.op = 10 ∧ endP s.m = true)) then ⟨{ s with m := { s.m with wi := 2 } }, 0⟩
  else if b.toNat = 40 ∧ anyP s.m = true then innerP s 5
  else if mayB1 s.m.nm b = true ∧ anyP s.m = true then addP { s with m := { s.m with wi := 3 } } b
  else ⟨s, 2⟩
def isNm (t : ByteArray) : Bool := (cutL t.data.toList).isSome
def nameElemP (s : Ps) (t : ByteArray) : Pr :=
  if isNm t = false then ⟨s, 18⟩ else tellP { s.m with sa := stepS [topP] ⟨10, t, ⟨#[]⟩⟩ } s.st s.l ⟨10, t, ⟨#[]⟩⟩
def nameAttrP (s : Ps) (t : ByteArray) : Pr :=
  if isNm t = false then ⟨s, 18⟩ else ⟨{ s with m := { s.m with at' := t, sa := stepS s.m.sa ⟨11, t, ⟨#[]⟩⟩ } }, stepE s.m.sa ⟨11, t, ⟨#[]⟩⟩⟩
def endStringP (s : Ps) (t : ByteArray) : Pr :=
  if s.m.uk = 0 then nameAttrP s t else if s.m.uk = 11 then tellP s.m s.st s.l ⟨11, s.m.at', t⟩
  else if s.m.uk = 10 then nameElemP s t
  else if s.m.uk = 4 ∧ topI s.m.op = 10 ∧ t.size = 0 then ⟨s, 2⟩ else tellP s.m s.st s.l ⟨s.m.uk, t, ⟨#[]⟩⟩
def charP (s : Ps) (b : UInt8) : Pr :=
  let r := Qt.qStep s.m.q (b.toNat : Int)
  if r.e ≠ 0 ∨ r.done = false then ⟨{ s with m := { s.m with q := r.q } }, r.e⟩
  else endStringP { s with m := { s.m with q := r.q, wi := 0, du := s.m.un } } ⟨r.q.xs.toArray⟩
def plainP (s : Ps) (b : UInt8) : Pr := if blankB b = true then ⟨s, 0⟩ else beginP s b
def stepP (s : Ps) (b : UInt8) : Pr :=
  if s.m.wi = 1 then (if b.toNat = 10 then ⟨{ s with m := { s.m with wi := 0 } }, 0⟩ else ⟨s, 0⟩)
  else if s.m.wi = 2 then markedP s b else if s.m.wi = 4 then charP s b
  else if s.m.wi = 3 then (if mayB1 s.m.nm b = true then addP s b else if (endNumP s).e ≠ 0 then endNumP s else plainP (endNumP s).b b)
  else plainP s b
def finP (s : Ps) : Pr :=
  let r := if s.m.wi = 3 then endNumP s else ⟨s, 0⟩
  if r.e ≠ 0 then r else if r.b.m.du ≠ 7 then ⟨r.b, 2⟩ else ⟨r.b, 0⟩

/-- A kind that may be open. -/
def kindI (k : Int) : Prop := k = 0 ∨ k = 5 ∨ k = 7 ∨ k = 10
/-- What holds ahead of each byte. -/
structure PInv (s : Ps) (n : Nat) : Prop where
  good : Good s.st
  ln : s.l.length ≤ 2 * n
  opn : s.m.op.length ≤ n + 1
  hd : ∃ r, s.m.op = 0 :: r ∧ ∀ k ∈ r, k = 5 ∨ k = 7 ∨ k = 10
  wi : 0 ≤ s.m.wi ∧ s.m.wi ≤ 4
  du : 0 ≤ s.m.du ∧ s.m.du ≤ 7
  un : 0 ≤ s.m.un ∧ s.m.un ≤ 7
  uk : s.m.uk = 0 ∨ s.m.uk = 4 ∨ s.m.uk = 8 ∨ s.m.uk = 10 ∨ s.m.uk = 11
  nml : s.m.nm.size ≤ 30
  atl : s.m.at'.size ≤ 48
  qi : Qt.QInv s.m.q
  sag : s.m.sa = [] ∨ Good s.m.sa
  sae : s.m.du = 4 ∨ s.m.du = 3 ∨ (s.m.wi = 4 ∧ s.m.uk = 0) → s.m.sa ≠ []
end Go.Proofs.YtmimadkepflmlaaGreatDoor
namespace Go.Proofs.YtmimadkepflmlaaGreatDoor
open Go.RowKit

theorem ret_bool {a b : Bool} (h : a = b) : Ending.returned (.bool a) = .returned (.bool b) := by rw [h]
theorem ret_int {k : IntKind} {a b : Int} (h : a = b) : Ending.returned (.int k a) = .returned (.int k b) := by rw [h]


theorem isch_any (r : Int) (w : World) :
    Calls Tryz.prog 160 #[.int .i64 r] w fun e w' => e = .returned (.bool (mayB r)) ∧ w = w' := by
  go_enter Tryz.func160, Tryz.ntmps160
  go_wp2
  all_goals go_ret
  all_goals refine ⟨ret_bool ?_, rfl⟩
  all_goals simp only [mayB]
  all_goals (rw [Bool.eq_iff_iff]; simp; try omega)


theorem i64_and63 (r : Int) (h0 : 0 ≤ r) (h1 : r < 9223372036854775808) : bits .and .i64 r 63 = r % 64 :=
  bits_mask .i64 63 (by decide) (fun n a b => by rw [IntKind.wrap_i64]; omega) 6 (by decide) r h0 h1

theorem tail_any (r : Int) (h0 : 0 ≤ r) (h1 : r ≤ 1114111) (w : World) :
    Calls Tryz.prog 161 #[.int .i64 r] w fun e w' => e = .returned (.int .u8 (128 + r % 64)) ∧ w = w' := by
  have e6 := i64_and63 r h0 (by omega)
  have e7 : r % 64 % 256 = r % 64 := by omega
  have e8 := u8_or128 (r % 64) (by omega) (by omega)
  go_enter Tryz.func161, Tryz.ntmps161
  go_wp2
  all_goals go_ret
  exact ⟨rfl, rfl⟩

theorem Tryz.info5 : (Tryz.prog.info? 5).map (fun i => (i.zero, i.size, i.bytes)) = some (some (.int .u8 0), 1, 1) := by kernel_rfl
theorem Tryz.info3 : (Tryz.prog.info? 3).map (fun i => (i.zero, i.size, i.bytes)) = some (some (.int .i64 0), 1, 8) := by kernel_rfl
end Go.Proofs.YtmimadkepflmlaaGreatDoor
