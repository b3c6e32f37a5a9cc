/-
  Numbers as plain functions: the machine of states, the parts of a text, and that they agree.
  The value of a number, its normal form, and the order of values, as plain functions.
-/
import Derived.Lib.Strings
import Derived.Lib.TrimByte
import Derived.Lib.ItoaNum
import Derived.Lib.ItoaLen
import Derived.Lib.AtoiAll
import Derived.Lib.Small
namespace Go.Proofs.YtonelabeflcplaaGreatDoor.Nm

def dig (b : UInt8) : Bool := decide (48 ≤ b.toNat ∧ b.toNat ≤ 57)
def isE (b : UInt8) : Bool := decide (b.toNat = 101 ∨ b.toNat = 69)
def isPM (b : UInt8) : Bool := decide (b.toNat = 43 ∨ b.toNat = 45)
theorem dig_iff (b : UInt8) : dig b = true ↔ 48 ≤ b.toNat ∧ b.toNat ≤ 57 := by unfold dig; simp
theorem dig_not (b : UInt8) : dig b = false ↔ ¬ (48 ≤ b.toNat ∧ b.toNat ≤ 57) := by unfold dig; rw [decide_eq_false_iff_not]

/-! The machine. -/
def dgI (a : Int) : Int := if a = 1 ∨ a = 2 ∨ a = 4 then 4 else if a = 5 ∨ a = 6 then 6 else if a = 7 ∨ a = 8 ∨ a = 9 then 9 else 0
def stepI (a b : Int) : Int :=
  if b = 48 then (if a = 1 ∨ a = 2 then 3 else dgI a)
  else if 49 ≤ b ∧ b ≤ 57 then dgI a
  else if b = 45 then (if a = 1 then 2 else if a = 7 then 8 else 0)
  else if b = 43 then (if a = 7 then 8 else 0)
  else if b = 46 then (if a = 3 ∨ a = 4 then 5 else 0)
  else if b = 101 ∨ b = 69 then (if a = 3 ∨ a = 4 ∨ a = 6 then 7 else 0)
  else 0
def mst (a : Int) : List UInt8 → Int
  | [] => a
  | b :: l => mst (stepI a b.toNat) l
def compB (a : Int) : Bool := decide (a = 3 ∨ a = 4 ∨ a = 6 ∨ a = 9)

theorem stepI_0 (b : Int) : stepI 0 b = 0 := by unfold stepI dgI; repeat' split
                                                all_goals omega
theorem mst_0 (l : List UInt8) : mst 0 l = 0 := by induction l with
  | nil => rfl
  | cons b l ih => rw [mst, stepI_0, ih]
theorem mst_append (a : Int) (l r : List UInt8) : mst a (l ++ r) = mst (mst a l) r := by
  induction l generalizing a with
  | nil => rfl
  | cons b l ih => exact ih _
theorem mst_snoc (a : Int) (l : List UInt8) (b : UInt8) : mst a (l ++ [b]) = stepI (mst a l) b.toNat := mst_append a l [b]

theorem st_dig {a : Int} {b : UInt8} (h : dig b = true) (h1 : a ≠ 1) (h2 : a ≠ 2) : stepI a b.toNat = dgI a := by
  rw [dig_iff] at h
  unfold stepI
  split
  · rw [if_neg (by omega)]
  · rw [if_pos (by omega)]
theorem st_non {a : Int} {b : UInt8} (h : dig b = false) : stepI a b.toNat =
    if b.toNat = 45 then (if a = 1 then 2 else if a = 7 then 8 else 0) else if b.toNat = 43 then (if a = 7 then 8 else 0)
    else if b.toNat = 46 then (if a = 3 ∨ a = 4 then 5 else 0) else if isE b then (if a = 3 ∨ a = 4 ∨ a = 6 then 7 else 0) else 0 := by
  rw [dig_not] at h
  unfold stepI isE
  rw [if_neg (by omega), if_neg (by omega)]
  simp only [decide_eq_true_eq]
  repeat' split
  all_goals first | rfl | omega

theorem mst9 (l : List UInt8) : mst 9 l = if l.all dig then 9 else 0 := by
  induction l with
  | nil => rfl
  | cons b l ih =>
    rw [mst]
    cases h : dig b
    · rw [st_non h, List.all_cons, h]
      simp only [Bool.false_and]
      repeat' split
      all_goals first | exact mst_0 _ | omega | contradiction
    · rw [st_dig h (by decide) (by decide), List.all_cons, h, Bool.true_and, ← ih]
      rfl
theorem mst8 (l : List UInt8) : mst 8 l = if l = [] then 8 else if l.all dig then 9 else 0 := by
  cases l with
  | nil => rfl
  | cons b l =>
    rw [mst, if_neg (by simp)]
    cases h : dig b
    · rw [st_non h, List.all_cons, h]
      simp only [Bool.false_and]
      repeat' split
      all_goals first | exact mst_0 _ | omega | contradiction
    · rw [st_dig h (by decide) (by decide), List.all_cons, h, Bool.true_and, ← mst9]
      rfl
def sgn : List UInt8 → List UInt8
  | [] => []
  | b :: l => if isPM b then l else b :: l
theorem mst7 (l : List UInt8) : mst 7 l = if l = [] then 7 else if sgn l = [] then 8 else if (sgn l).all dig then 9 else 0 := by
  cases l with
  | nil => rfl
  | cons b l =>
    rw [mst, if_neg (by simp)]
    cases h : dig b
    · rw [st_non h]
      by_cases hp : isPM b = true
      · have es : sgn (b :: l) = l := by unfold sgn; exact if_pos hp
        rw [es, ← mst8]
        unfold isPM at hp
        simp at hp
        repeat' split
        all_goals first | rfl | omega
      · have es : sgn (b :: l) = b :: l := by unfold sgn; exact if_neg hp
        rw [es, if_neg (List.cons_ne_nil _ _), List.all_cons, h, Bool.false_and, if_neg Bool.false_ne_true]
        unfold isPM at hp
        simp at hp
        repeat' split
        all_goals first | exact mst_0 _ | omega | contradiction
    · have hp : isPM b = false := by rw [dig_iff] at h; unfold isPM; simp; omega
      have es : sgn (b :: l) = b :: l := by unfold sgn; exact if_neg (by simp [hp])
      rw [es, if_neg (List.cons_ne_nil _ _), st_dig h (by decide) (by decide), List.all_cons, h, Bool.true_and, ← mst9]
      rfl
/-- Behind digits of the fraction. -/
def aft6 : List UInt8 → Int
  | [] => 6
  | b :: l => if isE b then mst 7 l else 0
theorem mst6 (l : List UInt8) : mst 6 l = aft6 (l.dropWhile dig) := by
  induction l with
  | nil => rfl
  | cons b l ih =>
    rw [mst]
    cases h : dig b
    · rw [st_non h, List.dropWhile_cons, h]
      simp only [Bool.false_eq_true, if_false, aft6]
      have e : isE b = decide (b.toNat = 101 ∨ b.toNat = 69) := rfl
      by_cases he : isE b = true
      · rw [he] at e
        have := of_decide_eq_true e.symm
        rw [if_neg (show ¬ b.toNat = 45 by omega), if_neg (show ¬ b.toNat = 43 by omega), if_neg (show ¬ b.toNat = 46 by omega), if_pos he, if_pos he]
        rfl
      · rw [if_neg he]
        repeat' split
        all_goals first | exact mst_0 _ | omega | contradiction
    · rw [st_dig h (by decide) (by decide), List.dropWhile_cons, h, if_pos rfl, ← ih]
      rfl
theorem mst5 (l : List UInt8) : mst 5 l = if l = [] then 5 else if l.takeWhile dig = [] then 0 else aft6 (l.dropWhile dig) := by
  cases l with
  | nil => rfl
  | cons b l =>
    rw [mst, if_neg (by simp)]
    cases h : dig b
    · rw [st_non h, List.takeWhile_cons, h]
      simp only [Bool.false_eq_true, if_false, if_true]
      repeat' split
      all_goals first | exact mst_0 _ | omega | contradiction
    · rw [st_dig h (by decide) (by decide), List.takeWhile_cons, List.dropWhile_cons, h, if_pos rfl, if_neg (by simp), if_pos rfl, ← mst6]
      rfl
/-- Behind digits of the whole. -/
def aft4 (z : Int) : List UInt8 → Int
  | [] => z
  | b :: l => if b.toNat = 46 then mst 5 l else if isE b then mst 7 l else 0
theorem aft4_step {a : Int} (ha : a = 3 ∨ a = 4) {b : UInt8} (h : dig b = false) (l : List UInt8) (z : Int) : mst (stepI a b.toNat) l = aft4 z (b :: l) := by
  rw [st_non h]
  simp only [aft4]
  have e : isE b = decide (b.toNat = 101 ∨ b.toNat = 69) := rfl
  by_cases he : isE b = true
  · rw [he] at e
    have := of_decide_eq_true e.symm
    rw [if_neg (show ¬ b.toNat = 45 by omega), if_neg (show ¬ b.toNat = 43 by omega), if_neg (show ¬ b.toNat = 46 by omega), if_pos he, if_neg (show ¬ b.toNat = 46 by omega), if_pos he, if_pos (show a = 3 ∨ a = 4 ∨ a = 6 by omega)]
  · rw [if_neg he]
    repeat' split
    all_goals first | rfl | exact mst_0 _ | omega | contradiction
theorem mst4 (l : List UInt8) : mst 4 l = aft4 4 (l.dropWhile dig) := by
  induction l with
  | nil => rfl
  | cons b l ih =>
    rw [mst]
    cases h : dig b
    · rw [List.dropWhile_cons, h]
      exact aft4_step (.inr rfl) h l 4
    · rw [st_dig h (by decide) (by decide), List.dropWhile_cons, h, if_pos rfl, ← ih]
      rfl
theorem mst3 (l : List UInt8) : mst 3 l = if l.takeWhile dig = [] then aft4 3 l else 0 := by
  cases l with
  | nil => rfl
  | cons b l =>
    rw [mst]
    cases h : dig b
    · rw [List.takeWhile_cons, h]
      simp only [Bool.false_eq_true, if_false, if_true]
      exact aft4_step (.inl rfl) h l 3
    · rw [st_dig h (by decide) (by decide), List.takeWhile_cons, h, if_pos rfl, if_neg (by simp)]
      exact mst_0 _
/-- From the digits of the whole on: a is 1 or 2, and no sign stands first where a is 1. -/
theorem mst12 (a : Int) (ha : a = 1 ∨ a = 2) (l : List UInt8) (hs : a = 1 → ∀ b r, l = b :: r → b.toNat ≠ 45) :
    mst a l = if l.dropWhile dig ≠ [] ∧ l.takeWhile dig = [] then 0 else if 1 < (l.takeWhile dig).length ∧ (l.takeWhile dig).head? = some 48 then 0
      else if l.takeWhile dig = [] then a else aft4 (if (l.takeWhile dig).head? = some 48 then 3 else 4) (l.dropWhile dig) := by
  cases l with
  | nil => rfl
  | cons b l =>
    rw [mst]
    cases h : dig b
    · rw [List.takeWhile_cons, List.dropWhile_cons, h]
      simp only [Bool.false_eq_true, if_false]
      rw [if_pos (by simp), st_non h]
      repeat' split
      all_goals first | exact mst_0 _ | omega | (exact absurd (by assumption) (hs (by assumption) _ _ rfl))
    · rw [List.takeWhile_cons, List.dropWhile_cons, h]
      simp only [if_true]
      rw [if_neg (by simp)]
      by_cases hz : b = 48
      · subst hz
        have e : stepI a ((48 : UInt8).toNat : Int) = 3 := by
          show stepI a 48 = 3
          unfold stepI
          rw [if_pos rfl, if_pos ha]
        rw [e, mst3]
        cases l with
        | nil => simp [aft4]
        | cons c l =>
          cases hc : dig c
          · rw [List.takeWhile_cons, List.dropWhile_cons, hc]
            simp
          · rw [List.takeWhile_cons, hc]
            simp
      · have e : stepI a b.toNat = 4 := by
          rw [dig_iff] at h
          have : b.toNat ≠ 48 := fun hc => hz (UInt8.toNat_inj.1 hc)
          unfold stepI
          rw [if_neg (by omega), if_pos (by omega)]
          rcases ha with rfl | rfl <;> rfl
        rw [e, mst4, if_neg (by simp [hz]), if_neg (by simp), if_neg (by simp [hz])]

/-! The parts of a text. -/
structure Parts where
  whole : List UInt8
  part : List UInt8
  tail : List UInt8
  begins : Bool
  is : Bool
def noParts : Parts := ⟨[], [], [], false, false⟩
def negL : List UInt8 → Bool
  | [] => false
  | b :: _ => decide (b.toNat = 45)
def unsigned (l : List UInt8) : List UInt8 := if negL l then l.drop 1 else l
/-- x: what stands behind the e. -/
def partsE (W F x : List UInt8) : Parts := if (sgn x).all dig then ⟨W, F, x, true, decide (sgn x ≠ [])⟩ else noParts
def partsX (W F : List UInt8) : List UInt8 → Parts
  | [] => noParts
  | c :: x => if isE c then partsE W F x else noParts
def partsF (W : List UInt8) (r : List UInt8) : Parts :=
  if r.dropWhile dig = [] then ⟨W, r.takeWhile dig, [], true, decide (r.takeWhile dig ≠ [])⟩
  else if r.takeWhile dig = [] then noParts else partsX W (r.takeWhile dig) (r.dropWhile dig)
def partsW (W : List UInt8) : List UInt8 → Parts
  | [] => ⟨W, [], [], true, decide (W ≠ [])⟩
  | c :: r => if c.toNat = 46 then partsF W r else partsX W [] (c :: r)
def partsU (u : List UInt8) : Parts :=
  if u.dropWhile dig ≠ [] ∧ u.takeWhile dig = [] then noParts
  else if 1 < (u.takeWhile dig).length ∧ (u.takeWhile dig).head? = some 48 then noParts
  else partsW (u.takeWhile dig) (u.dropWhile dig)
def parts (l : List UInt8) : Parts := partsU (unsigned l)

def Agree (p : Parts) (a : Int) : Prop := p.begins = decide (a ≠ 0) ∧ p.is = compB a
theorem agree_no : Agree noParts 0 := ⟨rfl, rfl⟩
theorem agree_E (W F x : List UInt8) : Agree (partsE W F x) (mst 7 x) := by
  unfold partsE
  rw [mst7]
  by_cases h : x = []
  · subst h; exact ⟨rfl, rfl⟩
  · rw [if_neg h]
    by_cases h2 : sgn x = []
    · rw [h2]; exact ⟨rfl, rfl⟩
    · rw [if_neg h2]
      cases (sgn x).all dig
      · exact ⟨rfl, rfl⟩
      · simp only [if_true]
        exact ⟨rfl, by simp [h2, compB]⟩
theorem agree_X (W F l : List UInt8) (h : l ≠ []) : Agree (partsX W F l) (aft6 l) := by
  cases l with
  | nil => exact absurd rfl h
  | cons c x =>
    simp only [partsX, aft6]
    by_cases h : isE c = true
    · rw [if_pos h, if_pos h]; exact agree_E W F x
    · rw [if_neg h, if_neg h]; exact agree_no
theorem agree_F (W r : List UInt8) : Agree (partsF W r) (mst 5 r) := by
  rw [mst5]
  unfold partsF
  by_cases h : r = []
  · subst h; exact ⟨rfl, rfl⟩
  · rw [if_neg h]
    by_cases h1 : r.dropWhile dig = []
    · rw [if_pos h1]
      by_cases h2 : r.takeWhile dig = []
      · exfalso
        have := List.takeWhile_append_dropWhile (p := dig) (l := r)
        rw [h1, h2] at this
        exact h this.symm
      · rw [if_neg h2, h1]
        exact ⟨rfl, by simp [h2, aft6, compB]⟩
    · rw [if_neg h1]
      by_cases h2 : r.takeWhile dig = []
      · rw [if_pos h2, if_pos h2]; exact agree_no
      · rw [if_neg h2, if_neg h2]; exact agree_X _ _ _ h1
theorem agree_W (W l : List UInt8) (z : Int) (hz : z = 3 ∨ z = 4) (hW : W ≠ []) : Agree (partsW W l) (aft4 z l) := by
  cases l with
  | nil =>
    refine ⟨?_, ?_⟩
    · show true = decide (z ≠ 0)
      rw [decide_eq_true (by omega)]
    · show decide (W ≠ []) = compB z
      unfold compB
      rw [decide_eq_true hW, decide_eq_true (by omega)]
  | cons c r =>
    simp only [partsW, aft4]
    by_cases h : c.toNat = 46
    · rw [if_pos h, if_pos h]; exact agree_F W r
    · rw [if_neg h, if_neg h]
      exact agree_X W [] (c :: r) (by simp)
theorem agree_U (a : Int) (ha : a = 1 ∨ a = 2) (u : List UInt8) (hs : a = 1 → ∀ b r, u = b :: r → b.toNat ≠ 45) : Agree (partsU u) (mst a u) := by
  rw [mst12 a ha u hs]
  unfold partsU
  split
  · exact agree_no
  · rename_i h1
    split
    · exact agree_no
    · by_cases h : u.takeWhile dig = []
      · have h2 : u.dropWhile dig = [] := by
          apply Decidable.byContradiction
          intro hc
          exact h1 ⟨hc, h⟩
        rw [if_pos h, h, h2]
        refine ⟨?_, ?_⟩
        · show true = decide (a ≠ 0)
          rw [decide_eq_true (by omega)]
        · show decide (([] : List UInt8) ≠ []) = compB a
          unfold compB
          rw [decide_eq_false (by simp), decide_eq_false (by omega)]
      · rw [if_neg h]
        exact agree_W _ _ _ (by split <;> simp) h
theorem agree_all (l : List UInt8) : Agree (parts l) (mst 1 l) := by
  unfold parts unsigned
  cases l with
  | nil => exact agree_U 1 (.inl rfl) [] (by intro _ _ _ h; cases h)
  | cons b l =>
    by_cases h : b.toNat = 45
    · rw [show negL (b :: l) = true from decide_eq_true h, if_pos rfl]
      have e : stepI 1 b.toNat = 2 := by
        rw [show (b.toNat : Int) = 45 from by omega]
        rfl
      rw [mst, e]
      exact agree_U 2 (.inr rfl) l (by intro h; cases h)
    · rw [show negL (b :: l) = false from decide_eq_false h, if_neg (by decide)]
      refine agree_U 1 (.inl rfl) (b :: l) ?_
      intro _ c r hc
      injection hc with h1 h2
      subst h1
      exact h
def begB (l : List UInt8) : Bool := decide (mst 1 l ≠ 0)
def isB (l : List UInt8) : Bool := compB (mst 1 l)
theorem parts_begins (l : List UInt8) : (parts l).begins = begB l := (agree_all l).1
theorem parts_is (l : List UInt8) : (parts l).is = isB l := (agree_all l).2
theorem is_begins {l : List UInt8} (h : isB l = true) : begB l = true := by
  unfold isB compB at h
  unfold begB
  have := of_decide_eq_true h
  exact decide_eq_true (by omega)
theorem beg_take {l : List UInt8} (k : Nat) (h : begB l = true) : begB (l.take k) = true := by
  unfold begB at *
  have h := of_decide_eq_true h
  refine decide_eq_true fun hc => h ?_
  rw [← List.take_append_drop k l, mst_append, hc, mst_0]
end Go.Proofs.YtonelabeflcplaaGreatDoor.Nm
namespace Go.Proofs.YtonelabeflcplaaGreatDoor.Nm

/-! Exponents. -/
def decStep (acc : Nat) (b : UInt8) : Nat := 10 * acc + (b.toNat - 48)
def decN (acc : Nat) (l : List UInt8) : Nat := l.foldl decStep acc
/-- 2^40. -/
def B40 : Nat := 1099511627776
def satStep (acc : Nat) (b : UInt8) : Nat := if dig b = true ∧ acc < B40 then 10 * acc + (b.toNat - 48) else acc
def satN (acc : Nat) : List UInt8 → Nat
  | [] => acc
  | b :: l => satN (satStep acc b) l
theorem satStep_yes {acc : Nat} {b : UInt8} (h : dig b = true) (h2 : acc < B40) : satStep acc b = 10 * acc + (b.toNat - 48) := if_pos ⟨h, h2⟩
theorem satStep_no {acc : Nat} {b : UInt8} (h : ¬ (dig b = true ∧ acc < B40)) : satStep acc b = acc := if_neg h
theorem decN_nil (acc : Nat) : decN acc [] = acc := by unfold decN; rw [List.foldl_nil]
theorem decN_cons (acc : Nat) (b : UInt8) (l : List UInt8) : decN acc (b :: l) = decN (10 * acc + (b.toNat - 48)) l := by unfold decN; rw [List.foldl_cons, decStep]
theorem satN_yes {acc : Nat} {b : UInt8} (h : dig b = true) (h2 : acc < B40) (l : List UInt8) : satN acc (b :: l) = satN (10 * acc + (b.toNat - 48)) l := by rw [satN, satStep_yes h h2]
theorem satN_no {acc : Nat} {b : UInt8} (h : ¬ (dig b = true ∧ acc < B40)) (l : List UInt8) : satN acc (b :: l) = satN acc l := by rw [satN, satStep_no h]
theorem decN_ge (l : List UInt8) (acc : Nat) : acc ≤ decN acc l := by
  induction l generalizing acc with
  | nil => rw [decN_nil]; exact Nat.le_refl _
  | cons b l ih => rw [decN_cons]; exact Nat.le_trans (by omega) (ih _)
theorem satN_big (l : List UInt8) (acc : Nat) (h : B40 ≤ acc) : satN acc l = acc := by
  induction l generalizing acc with
  | nil => rfl
  | cons b l ih => rw [satN_no (fun hc => by have := hc.2; omega), ih _ h]
theorem satN_cases (l : List UInt8) (hl : l.all dig = true) (acc : Nat) : satN acc l = decN acc l ∨ (B40 ≤ satN acc l ∧ B40 ≤ decN acc l) := by
  induction l generalizing acc with
  | nil => rw [decN_nil]; exact .inl rfl
  | cons b l ih =>
    rw [List.all_cons, Bool.and_eq_true] at hl
    by_cases h : acc < B40
    · rw [satN_yes hl.1 h, decN_cons]
      exact ih hl.2 _
    · refine .inr ⟨?_, ?_⟩
      · rw [satN_big _ _ (Nat.le_of_not_lt h)]; exact Nat.le_of_not_lt h
      · exact Nat.le_trans (Nat.le_of_not_lt h) (decN_ge (b :: l) acc)
theorem parse_dec (l : List UInt8) (hl : l.all dig = true) (acc : Nat) (ha : acc < 18446744073709551616) :
    Lib.parseUint10 acc l = if decN acc l < 18446744073709551616 then .ok (decN acc l) else .range := by
  induction l generalizing acc with
  | nil => rw [decN_nil, if_pos ha]; rfl
  | cons b l ih =>
    rw [List.all_cons, Bool.and_eq_true, dig_iff] at hl
    have hge := decN_ge l (10 * acc + (b.toNat - 48))
    have hd := decN_cons acc b l
    rw [Lib.parseUint10, if_pos hl.1, hd]
    by_cases h1 : 1844674407370955162 ≤ acc
    · rw [if_pos h1]
      exact (if_neg (by omega)).symm
    · rw [if_neg h1]
      by_cases h2 : 18446744073709551616 ≤ acc * 10 + (b.toNat - 48)
      · rw [if_pos h2]
        exact (if_neg (by omega)).symm
      · rw [if_neg h2, show acc * 10 + (b.toNat - 48) = 10 * acc + (b.toNat - 48) from by omega]
        exact ih hl.2 _ (by omega)
/-- The exponent that stands behind the e; 0 where nothing stands there. -/
def eexp (t : List UInt8) : Int := if negL t then -(decN 0 (sgn t) : Int) else decN 0 (sgn t)
def esat (t : List UInt8) : Int := if negL t then -(satN 0 t : Int) else satN 0 t
theorem satN_sgn (t : List UInt8) : satN 0 t = satN 0 (sgn t) := by
  cases t with
  | nil => rfl
  | cons b l =>
    unfold sgn
    by_cases h : isPM b = true
    · have hd : dig b = false := by unfold isPM at h; rw [dig_not]; have := of_decide_eq_true h; omega
      simp only [h, if_true]
      rw [satN_no (by rw [hd]; simp)]
    · simp only [h]
      rfl
def clampI (n : Int) : Int := max (-2058) (min n 2058)
/-- What Atoi answers, and the exponent's clamp of it. -/
def endI (e : Lib.NumEnd Int) (sat : Int) : Int := match e with | .ok v => v | .range => sat | _ => 0
def atoiI (t : List UInt8) : Int := endI (Lib.atoiAll t) (Lib.atoiSat t)
theorem isPM_iff (b : UInt8) : isPM b = true ↔ b.toNat = 43 ∨ b.toNat = 45 := by unfold isPM; simp
theorem atoi_tail (t : List UInt8) (h1 : sgn t ≠ []) (h2 : (sgn t).all dig = true) : (Lib.atoiAll t = .range ∨ ∃ v, Lib.atoiAll t = .ok v) ∧ clampI (atoiI t) = clampI (eexp t) := by
  cases t with
  | nil => exact absurd rfl h1
  | cons c r =>
    have e1 : (if c.toNat = 43 ∨ c.toNat = 45 then r else c :: r) = sgn (c :: r) := by
      simp only [sgn]
      by_cases h : c.toNat = 43 ∨ c.toNat = 45
      · rw [if_pos h, if_pos ((isPM_iff c).2 h)]
      · rw [if_neg h, if_neg (fun hc => h ((isPM_iff c).1 hc))]
    have e2 : Lib.parseMag (sgn (c :: r)) = if decN 0 (sgn (c :: r)) < 18446744073709551616 then .ok (decN 0 (sgn (c :: r))) else .range := by
      unfold Lib.parseMag
      rw [if_neg h1, parse_dec _ h2 0 (by omega)]
    have e3 : negL (c :: r) = decide (c.toNat = 45) := rfl
    have e4 : Lib.atoiSat (c :: r) = if c.toNat = 45 then -9223372036854775808 else 9223372036854775807 := by
      unfold Lib.atoiSat
      simp
    unfold atoiI eexp
    rw [e3, e4]
    simp only [Lib.atoiAll, e1, e2]
    generalize decN 0 (sgn (c :: r)) = n
    by_cases hn : n < 18446744073709551616
    · rw [if_pos hn]
      simp only [decide_eq_true_eq]
      by_cases hc : c.toNat = 45
      · simp only [hc, not_true_eq_false, false_and, if_false, true_and, if_true]
        by_cases hb : 9223372036854775808 < n
        · rw [if_pos hb]
          refine ⟨.inl rfl, ?_⟩
          unfold clampI endI; simp only []; omega
        · rw [if_neg hb]; exact ⟨.inr ⟨_, rfl⟩, rfl⟩
      · simp only [hc, not_false_eq_true, true_and, false_and, if_false]
        by_cases hb : 9223372036854775808 ≤ n
        · rw [if_pos hb]
          refine ⟨.inl rfl, ?_⟩
          unfold clampI endI; simp only []; omega
        · rw [if_neg hb]; exact ⟨.inr ⟨_, rfl⟩, rfl⟩
    · rw [if_neg hn]
      refine ⟨.inl rfl, ?_⟩
      simp only [decide_eq_true_eq]
      unfold clampI endI
      simp only []
      split <;> omega
/-- Alike as far as a normal form may reach. -/
def Near (e e' : Int) : Prop := e' = e ∨ (1100 < e ∧ 1100 < e') ∨ (e < -1100 ∧ e' < -1100)
theorem near_clamp (e : Int) : Near e (clampI e) := by unfold Near clampI; omega
theorem near_sat (t : List UInt8) (h2 : (sgn t).all dig = true) : Near (eexp t) (esat t) := by
  unfold eexp esat
  rw [satN_sgn]
  have := satN_cases (sgn t) h2 0
  unfold B40 at this
  unfold Near
  split <;> omega
theorem near_atoi (t : List UInt8) (h1 : sgn t ≠ []) (h2 : (sgn t).all dig = true) : Near (eexp t) (clampI (atoiI t)) := by
  rw [(atoi_tail t h1 h2).2]
  exact near_clamp _

/-! Values. -/
structure Val where
  neg : Bool
  digs : List UInt8
  pow : Int
  deriving DecidableEq
def allD (l : List UInt8) : List UInt8 := (parts l).whole ++ (parts l).part
def rightD (l : List UInt8) : List UInt8 := Lib.trimRightB (allD l) 48
def digsD (l : List UInt8) : List UInt8 := Lib.trimLeftB (rightD l) 48
def powD (l : List UInt8) (e : Int) : Int := e + ((allD l).length : Int) - (rightD l).length - (parts l).part.length
def valE (l : List UInt8) (e : Int) : Val := if digsD l = [] then ⟨false, [], 0⟩ else ⟨negL l, digsD l, powD l e⟩
def tailI (p : Int) : List UInt8 := if p = 0 then [] else 101 :: Lib.itoa p
def formL (v : Val) : List UInt8 := if v.digs = [] then [48] else (if v.neg then [45] else []) ++ v.digs ++ tailI v.pow
def okV (v : Val) : Bool := decide (-999 ≤ v.pow ∧ v.pow ≤ 999 ∧ (formL v).length ≤ 30)
def readE (l : List UInt8) (e : Int) : Option Val := if isB l = true ∧ l.length ≤ 30 then (if okV (valE l e) then some (valE l e) else none) else none
def readL (l : List UInt8) : Option Val := readE l (eexp (parts l).tail)

theorem unsigned_len (l : List UInt8) : (unsigned l).length ≤ l.length := by unfold unsigned; split <;> simp
theorem tw_dw (l : List UInt8) : (l.takeWhile dig).length + (l.dropWhile dig).length = l.length := by
  rw [← List.length_append, List.takeWhile_append_dropWhile]
theorem partsX_len (W F r : List UInt8) : ((partsX W F r).whole.length + (partsX W F r).part.length) ≤ W.length + F.length := by
  cases r with
  | nil => simp [partsX, noParts]
  | cons c x =>
    simp only [partsX]
    by_cases h : isE c = true
    · rw [if_pos h]
      unfold partsE
      split
      · exact Nat.le_refl _
      · simp [noParts]
    · rw [if_neg h]; simp [noParts]
theorem partsW_len (W r : List UInt8) : ((partsW W r).whole.length + (partsW W r).part.length) ≤ W.length + r.length := by
  cases r with
  | nil => simp [partsW]
  | cons c r =>
    simp only [partsW]
    by_cases h : c.toNat = 46
    · rw [if_pos h]
      unfold partsF
      have := tw_dw r
      split
      · simp; omega
      · split
        · simp [noParts]
        · refine Nat.le_trans (partsX_len _ _ _) ?_
          simp; omega
    · rw [if_neg h]
      refine Nat.le_trans (partsX_len _ _ _) ?_
      simp
theorem parts_len (l : List UInt8) : ((parts l).whole.length + (parts l).part.length) ≤ l.length := by
  unfold parts partsU
  have := unsigned_len l
  split
  · simp [noParts]
  · split
    · simp [noParts]
    · have h1 := tw_dw (unsigned l)
      exact Nat.le_trans (partsW_len _ _) (by omega)
theorem trimR_len (l : List UInt8) (c : UInt8) : (Lib.trimRightB l c).length ≤ l.length := by
  unfold Lib.trimRightB
  rw [List.length_reverse]
  exact Nat.le_trans (List.dropWhile_suffix _).sublist.length_le (by simp)
theorem trimL_len (l : List UInt8) (c : UInt8) : (Lib.trimLeftB l c).length ≤ l.length := (List.dropWhile_suffix _).sublist.length_le
theorem readE_near (l : List UInt8) (e e' : Int) (h : Near e e') : readE l e' = readE l e := by
  unfold readE
  by_cases hl : isB l = true ∧ l.length ≤ 30
  · rw [if_pos hl, if_pos hl]
    rcases h with h | h
    · rw [h]
    · have h1 := parts_len l
      have h2 := trimR_len (allD l) 48
      have h3 : (allD l).length = (parts l).whole.length + (parts l).part.length := by unfold allD; simp
      by_cases hd : digsD l = []
      · unfold valE; rw [if_pos hd, if_pos hd]
      · have hk : ∀ x : Int, (1100 < x ∨ x < -1100) → okV (valE l x) = false := by
          intro x hx
          unfold okV valE
          rw [if_neg hd]
          refine decide_eq_false ?_
          simp only [powD]
          unfold rightD
          omega
        rw [hk e (by omega), hk e' (by omega)]
        rfl
  · rw [if_neg hl, if_neg hl]

/-! Order. -/
def lexC : List UInt8 → List UInt8 → Int
  | [], [] => 0
  | [], _ :: _ => -1
  | _ :: _, [] => 1
  | a :: x, b :: y => if a.toNat < b.toNat then -1 else if b.toNat < a.toNat then 1 else lexC x y
theorem lexC_self (x : List UInt8) : lexC x x = 0 := by
  induction x with
  | nil => rfl
  | cons a x ih => simp [lexC, ih]
theorem lexC_swap (x y : List UInt8) : lexC y x = - lexC x y := by
  induction x generalizing y with
  | nil => cases y <;> rfl
  | cons a x ih =>
    cases y with
    | nil => rfl
    | cons b y =>
      simp only [lexC]
      by_cases h1 : a.toNat < b.toNat
      · rw [if_pos h1, if_neg (show ¬ b.toNat < a.toNat by omega), if_pos h1]; rfl
      · by_cases h2 : b.toNat < a.toNat
        · rw [if_neg h1, if_pos h2, if_pos h2]; simp only [if_neg h1]
        · rw [if_neg h1, if_neg h2, if_neg h1, if_neg h2, ih]
theorem lexC_01 (x y : List UInt8) : lexC x y = -1 ∨ lexC x y = 0 ∨ lexC x y = 1 := by
  induction x generalizing y with
  | nil => cases y <;> simp [lexC]
  | cons a x ih =>
    cases y with
    | nil => simp [lexC]
    | cons b y =>
      simp only [lexC]
      split
      · exact .inl rfl
      · split
        · exact .inr (.inr rfl)
        · exact ih y
theorem lexC_zero {x y : List UInt8} (h : lexC x y = 0) : x = y := by
  induction x generalizing y with
  | nil => cases y with
    | nil => rfl
    | cons b y => cases h
  | cons a x ih =>
    cases y with
    | nil => cases h
    | cons b y =>
      simp only [lexC] at h
      split at h
      · omega
      · split at h
        · omega
        · rw [ih h, UInt8.toNat_inj.1 (show a.toNat = b.toNat by omega)]
theorem lexC_trans {x y z : List UInt8} (h1 : lexC x y ≤ 0) (h2 : lexC y z ≤ 0) : lexC x z ≤ 0 := by
  induction x generalizing y z with
  | nil => cases z <;> simp [lexC]
  | cons a x ih =>
    cases y with
    | nil => simp [lexC] at h1
    | cons b y =>
      cases z with
      | nil => simp [lexC] at h2
      | cons c z =>
        simp only [lexC] at *
        by_cases k1 : a.toNat < b.toNat
        · by_cases k2 : b.toNat < c.toNat
          · rw [if_pos (by omega)]; decide
          · rw [if_neg k2] at h2
            by_cases k3 : c.toNat < b.toNat
            · rw [if_pos k3] at h2; omega
            · rw [if_pos (by omega)]; decide
        · rw [if_neg k1] at h1
          by_cases k2 : b.toNat < a.toNat
          · rw [if_pos k2] at h1; omega
          · rw [if_neg k2] at h1
            by_cases k3 : b.toNat < c.toNat
            · rw [if_pos (by omega)]; decide
            · rw [if_neg k3] at h2
              by_cases k4 : c.toNat < b.toNat
              · rw [if_pos k4] at h2; omega
              · rw [if_neg k4] at h2
                rw [if_neg (by omega), if_neg (by omega)]
                exact ih h1 h2
def cmpI (a b : Int) : Int := if a < b then -1 else if b < a then 1 else 0
def sgI (v : Val) : Int := if v.digs = [] then 0 else if v.neg then -1 else 1
def cmpSz (x y : Val) : Int := if cmpI (x.digs.length + x.pow) (y.digs.length + y.pow) ≠ 0 then cmpI (x.digs.length + x.pow) (y.digs.length + y.pow) else lexC x.digs y.digs
def cmpV (x y : Val) : Int := if sgI x ≠ sgI y then cmpI (sgI x) (sgI y) else sgI x * cmpSz x y
theorem cmpI_swap (a b : Int) : cmpI b a = - cmpI a b := by unfold cmpI; repeat' split
                                                            all_goals omega
theorem cmpI_zero {a b : Int} (h : cmpI a b = 0) : a = b := by unfold cmpI at h; repeat' split at h
                                                               all_goals omega
theorem cmpI_self (a : Int) : cmpI a a = 0 := by unfold cmpI; simp
theorem cmpI_le {a b : Int} (h : ¬ cmpI a b = 0) (h1 : cmpI a b ≤ 0) : a < b := by
  unfold cmpI at h h1
  by_cases k : a < b
  · exact k
  · rw [if_neg k] at h h1
    by_cases k2 : b < a
    · rw [if_pos k2] at h1; omega
    · rw [if_neg k2] at h; exact absurd rfl h
theorem cmpI_lt {a b c : Int} (h : a < b) (h1 : b < c) : cmpI a c = -1 := by unfold cmpI; exact if_pos (by omega)
theorem cmpSz_swap (x y : Val) : cmpSz y x = - cmpSz x y := by
  unfold cmpSz
  rw [cmpI_swap (x.digs.length + x.pow), lexC_swap x.digs]
  by_cases h : cmpI (x.digs.length + x.pow) (y.digs.length + y.pow) = 0
  · rw [if_neg (by omega), if_neg (by omega)]
  · rw [if_pos (by omega), if_pos (by omega)]
theorem cmpSz_trans {x y z : Val} (h1 : cmpSz x y ≤ 0) (h2 : cmpSz y z ≤ 0) : cmpSz x z ≤ 0 := by
  unfold cmpSz at *
  by_cases k1 : cmpI (x.digs.length + x.pow) (y.digs.length + y.pow) = 0
  · rw [if_neg (by omega)] at h1
    have e1 := cmpI_zero k1
    rw [e1]
    by_cases k2 : cmpI (y.digs.length + y.pow) (z.digs.length + z.pow) = 0
    · rw [if_neg (by omega)] at h2
      rw [if_neg (by omega)]
      exact lexC_trans h1 h2
    · rw [if_pos k2] at h2
      rw [if_pos k2]; exact h2
  · rw [if_pos k1] at h1
    by_cases k2 : cmpI (y.digs.length + y.pow) (z.digs.length + z.pow) = 0
    · have e2 := cmpI_zero k2
      rw [← e2, if_pos k1]; exact h1
    · rw [if_pos k2] at h2
      have hm : cmpI (x.digs.length + x.pow) (z.digs.length + z.pow) = -1 := cmpI_lt (cmpI_le k1 h1) (cmpI_le k2 h2)
      rw [hm, if_pos (by omega)]; omega
theorem sg_01 (x : Val) : sgI x = -1 ∨ sgI x = 0 ∨ sgI x = 1 := by unfold sgI; repeat' split
                                                                   all_goals omega
theorem cmpV_swap (x y : Val) : cmpV y x = - cmpV x y := by
  unfold cmpV
  by_cases h : sgI x = sgI y
  · rw [if_neg (by omega), if_neg (by omega), cmpSz_swap x y, h, Int.mul_neg]
  · rw [if_pos (by omega), if_pos (by omega), cmpI_swap]
theorem cmpV_self (x : Val) : cmpV x x = 0 := by
  unfold cmpV cmpSz
  rw [if_neg (by simp), if_neg (by rw [cmpI_self]; simp), lexC_self]
  omega
theorem cmpV_trans {x y z : Val} (h1 : cmpV x y ≤ 0) (h2 : cmpV y z ≤ 0) : cmpV x z ≤ 0 := by
  unfold cmpV at *
  have a := sg_01 x
  have b := sg_01 y
  have c := sg_01 z
  by_cases k1 : sgI x = sgI y
  · rw [if_neg (by omega)] at h1
    by_cases k2 : sgI y = sgI z
    · rw [if_neg (by omega)] at h2
      rw [if_neg (by omega)]
      rcases a with a | a | a
      · rw [a] at h1 ⊢
        rw [show sgI y = -1 from by omega] at h2
        have := @cmpSz_trans z y x (by have := cmpSz_swap y z; omega) (by have := cmpSz_swap x y; omega)
        have := cmpSz_swap x z
        omega
      · rw [a]; omega
      · rw [a] at h1 ⊢
        rw [show sgI y = 1 from by omega] at h2
        have := @cmpSz_trans x y z (by omega) (by omega)
        omega
    · rw [if_pos k2] at h2
      rw [if_pos (by omega), k1]; exact h2
  · rw [if_pos k1] at h1
    by_cases k2 : sgI y = sgI z
    · rw [if_pos (by omega), ← k2]; exact h1
    · rw [if_pos k2] at h2
      unfold cmpI at h1 h2 ⊢
      repeat' split at h1
      all_goals repeat' split at h2
      all_goals repeat' split
      all_goals omega
/-- Written as a value is: no nought at either end, and 0 plainly. -/
def CanV (v : Val) : Prop := (v.digs = [] → v.neg = false ∧ v.pow = 0) ∧ v.digs.head? ≠ some 48 ∧ v.digs.getLast? ≠ some 48 ∧ v.digs.all dig = true
theorem cmpV_zero {x y : Val} (hx : CanV x) (hy : CanV y) (h : cmpV x y = 0) : x = y := by
  unfold cmpV at h
  by_cases k : sgI x = sgI y
  · rw [if_neg (by omega)] at h
    by_cases h0 : x.digs = []
    · have : y.digs = [] := by
        unfold sgI at k
        rw [if_pos h0] at k
        apply Decidable.byContradiction
        intro hc
        rw [if_neg hc] at k
        split at k <;> omega
      have a := hx.1 h0
      have b := hy.1 this
      cases x; cases y
      simp only at *
      rw [h0, this, a.1, b.1, a.2, b.2]
    · have h0' : y.digs ≠ [] := by
        intro hc
        unfold sgI at k
        rw [if_neg h0, if_pos hc] at k
        split at k <;> omega
      have hs : x.neg = y.neg := by
        unfold sgI at k
        rw [if_neg h0, if_neg h0'] at k
        cases hx1 : x.neg <;> cases hy1 : y.neg <;> rw [hx1, hy1] at k <;> first | rfl | (simp at k)
      have hz : cmpSz x y = 0 := by
        have : sgI x = 1 ∨ sgI x = -1 := by unfold sgI; rw [if_neg h0]; split <;> omega
        rcases this with e | e <;> rw [e] at h <;> omega
      unfold cmpSz at hz
      by_cases kk : cmpI (x.digs.length + x.pow) (y.digs.length + y.pow) = 0
      · rw [if_neg (by omega)] at hz
        have e1 := lexC_zero hz
        have e2 := cmpI_zero kk
        rw [e1] at e2
        have e3 : x.pow = y.pow := by omega
        cases x; cases y
        simp only at *
        rw [e1, e3, hs]
      · rw [if_pos kk] at hz; exact absurd hz kk
  · rw [if_pos k] at h
    exact absurd (cmpI_zero h) k
end Go.Proofs.YtonelabeflcplaaGreatDoor.Nm
