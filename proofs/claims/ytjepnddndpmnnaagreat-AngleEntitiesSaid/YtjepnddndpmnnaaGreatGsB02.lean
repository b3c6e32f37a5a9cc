/-
  Numbers as plain functions: the machine of states, the parts of a text, and that they agree.
  A number's text by any table of the library: plain functions. No program is read here.
-/
import Derived.Lib.Strings
import Derived.Shelf.Strconv.AppendInt10
namespace Go.Proofs.YtjepnddndpmnnaaGreat.Nm

def dig (b : UInt8) : Bool := decide (48 ≤ b.toNat ∧ b.toNat ≤ 57)
def isE (b : UInt8) : Bool := decide (b.toNat = 101 ∨ b.toNat = 69)
def isPM (b : UInt8) : Bool := decide (b.toNat = 43 ∨ b.toNat = 45)
theorem dig_iff (b : UInt8) : dig b = true ↔ 48 ≤ b.toNat ∧ b.toNat ≤ 57 := by unfold dig; simp
theorem dig_not (b : UInt8) : dig b = false ↔ ¬ (48 ≤ b.toNat ∧ b.toNat ≤ 57) := by unfold dig; rw [decide_eq_false_iff_not]

/-! The machine. -/
def dgI (a : Int) : Int := if a = 1 ∨ a = 2 ∨ a = 4 then 4 else if a = 5 ∨ a = 6 then 6 else if a = 7 ∨ a = 8 ∨ a = 9 then 9 else 0
def stepI (a b : Int) : Int :=
  if b = 48 then (if a = 1 ∨ a = 2 then 3 else dgI a)
  else if 49 ≤ b ∧ b ≤ 57 then dgI a
  else if b = 45 then (if a = 1 then 2 else if a = 7 then 8 else 0)
  else if b = 43 then (if a = 7 then 8 else 0)
  else if b = 46 then (if a = 3 ∨ a = 4 then 5 else 0)
  else if b = 101 ∨ b = 69 then (if a = 3 ∨ a = 4 ∨ a = 6 then 7 else 0)
  else 0
def mst (a : Int) : List UInt8 → Int
  | [] => a
  | b :: l => mst (stepI a b.toNat) l
def compB (a : Int) : Bool := decide (a = 3 ∨ a = 4 ∨ a = 6 ∨ a = 9)

theorem stepI_0 (b : Int) : stepI 0 b = 0 := by unfold stepI dgI; repeat' split
                                                all_goals omega
theorem mst_0 (l : List UInt8) : mst 0 l = 0 := by induction l with
  | nil => rfl
  | cons b l ih => rw [mst, stepI_0, ih]
theorem mst_append (a : Int) (l r : List UInt8) : mst a (l ++ r) = mst (mst a l) r := by
  induction l generalizing a with
  | nil => rfl
  | cons b l ih => exact ih _
theorem mst_snoc (a : Int) (l : List UInt8) (b : UInt8) : mst a (l ++ [b]) = stepI (mst a l) b.toNat := mst_append a l [b]

theorem st_dig {a : Int} {b : UInt8} (h : dig b = true) (h1 : a ≠ 1) (h2 : a ≠ 2) : stepI a b.toNat = dgI a := by
  rw [dig_iff] at h
  unfold stepI
  split
  · rw [if_neg (by omega)]
  · rw [if_pos (by omega)]
theorem st_non {a : Int} {b : UInt8} (h : dig b = false) : stepI a b.toNat =
    if b.toNat = 45 then (if a = 1 then 2 else if a = 7 then 8 else 0) else if b.toNat = 43 then (if a = 7 then 8 else 0)
    else if b.toNat = 46 then (if a = 3 ∨ a = 4 then 5 else 0) else if isE b then (if a = 3 ∨ a = 4 ∨ a = 6 then 7 else 0) else 0 := by
  rw [dig_not] at h
  unfold stepI isE
  rw [if_neg (by omega), if_neg (by omega)]
  simp only [decide_eq_true_eq]
  repeat' split
  all_goals first | rfl | omega

theorem mst9 (l : List UInt8) : mst 9 l = if l.all dig then 9 else 0 := by
  induction l with
  | nil => rfl
  | cons b l ih =>
    rw [mst]
    cases h : dig b
    · rw [st_non h, List.all_cons, h]
      simp only [Bool.false_and]
      repeat' split
      all_goals first | exact mst_0 _ | omega | contradiction
    · rw [st_dig h (by decide) (by decide), List.all_cons, h, Bool.true_and, ← ih]
      rfl
theorem mst8 (l : List UInt8) : mst 8 l = if l = [] then 8 else if l.all dig then 9 else 0 := by
  cases l with
  | nil => rfl
  | cons b l =>
    rw [mst, if_neg (by simp)]
    cases h : dig b
    · rw [st_non h, List.all_cons, h]
      simp only [Bool.false_and]
      repeat' split
      all_goals first | exact mst_0 _ | omega | contradiction
    · rw [st_dig h (by decide) (by decide), List.all_cons, h, Bool.true_and, ← mst9]
      rfl
def sgn : List UInt8 → List UInt8
  | [] => []
  | b :: l => if isPM b then l else b :: l
theorem mst7 (l : List UInt8) : mst 7 l = if l = [] then 7 else if sgn l = [] then 8 else if (sgn l).all dig then 9 else 0 := by
  cases l with
  | nil => rfl
  | cons b l =>
    rw [mst, if_neg (by simp)]
    cases h : dig b
    · rw [st_non h]
      by_cases hp : isPM b = true
      · have es : sgn (b :: l) = l := by unfold sgn; exact if_pos hp
        rw [es, ← mst8]
        unfold isPM at hp
        simp at hp
        repeat' split
        all_goals first | rfl | omega
      · have es : sgn (b :: l) = b :: l := by unfold sgn; exact if_neg hp
        rw [es, if_neg (List.cons_ne_nil _ _), List.all_cons, h, Bool.false_and, if_neg Bool.false_ne_true]
        unfold isPM at hp
        simp at hp
        repeat' split
        all_goals first | exact mst_0 _ | omega | contradiction
    · have hp : isPM b = false := by rw [dig_iff] at h; unfold isPM; simp; omega
      have es : sgn (b :: l) = b :: l := by unfold sgn; exact if_neg (by simp [hp])
      rw [es, if_neg (List.cons_ne_nil _ _), st_dig h (by decide) (by decide), List.all_cons, h, Bool.true_and, ← mst9]
      rfl
/-- Behind digits of the fraction. -/
def aft6 : List UInt8 → Int
  | [] => 6
  | b :: l => if isE b then mst 7 l else 0
theorem mst6 (l : List UInt8) : mst 6 l = aft6 (l.dropWhile dig) := by
  induction l with
  | nil => rfl
  | cons b l ih =>
    rw [mst]
    cases h : dig b
    · rw [st_non h, List.dropWhile_cons, h]
      simp only [Bool.false_eq_true, if_false, aft6]
      have e : isE b = decide (b.toNat = 101 ∨ b.toNat = 69) := rfl
      by_cases he : isE b = true
      · rw [he] at e
        have := of_decide_eq_true e.symm
        rw [if_neg (show ¬ b.toNat = 45 by omega), if_neg (show ¬ b.toNat = 43 by omega), if_neg (show ¬ b.toNat = 46 by omega), if_pos he, if_pos he]
        rfl
      · rw [if_neg he]
        repeat' split
        all_goals first | exact mst_0 _ | omega | contradiction
    · rw [st_dig h (by decide) (by decide), List.dropWhile_cons, h, if_pos rfl, ← ih]
      rfl
theorem mst5 (l : List UInt8) : mst 5 l = if l = [] then 5 else if l.takeWhile dig = [] then 0 else aft6 (l.dropWhile dig) := by
  cases l with
  | nil => rfl
  | cons b l =>
    rw [mst, if_neg (by simp)]
    cases h : dig b
    · rw [st_non h, List.takeWhile_cons, h]
      simp only [Bool.false_eq_true, if_false, if_true]
      repeat' split
      all_goals first | exact mst_0 _ | omega | contradiction
    · rw [st_dig h (by decide) (by decide), List.takeWhile_cons, List.dropWhile_cons, h, if_pos rfl, if_neg (by simp), if_pos rfl, ← mst6]
      rfl
/-- Behind digits of the whole. -/
def aft4 (z : Int) : List UInt8 → Int
  | [] => z
  | b :: l => if b.toNat = 46 then mst 5 l else if isE b then mst 7 l else 0
theorem aft4_step {a : Int} (ha : a = 3 ∨ a = 4) {b : UInt8} (h : dig b = false) (l : List UInt8) (z : Int) : mst (stepI a b.toNat) l = aft4 z (b :: l) := by
  rw [st_non h]
  simp only [aft4]
  have e : isE b = decide (b.toNat = 101 ∨ b.toNat = 69) := rfl
  by_cases he : isE b = true
  · rw [he] at e
    have := of_decide_eq_true e.symm
    rw [if_neg (show ¬ b.toNat = 45 by omega), if_neg (show ¬ b.toNat = 43 by omega), if_neg (show ¬ b.toNat = 46 by omega), if_pos he, if_neg (show ¬ b.toNat = 46 by omega), if_pos he, if_pos (show a = 3 ∨ a = 4 ∨ a = 6 by omega)]
  · rw [if_neg he]
    repeat' split
    all_goals first | rfl | exact mst_0 _ | omega | contradiction
theorem mst4 (l : List UInt8) : mst 4 l = aft4 4 (l.dropWhile dig) := by
  induction l with
  | nil => rfl
  | cons b l ih =>
    rw [mst]
    cases h : dig b
    · rw [List.dropWhile_cons, h]
      exact aft4_step (.inr rfl) h l 4
    · rw [st_dig h (by decide) (by decide), List.dropWhile_cons, h, if_pos rfl, ← ih]
      rfl
theorem mst3 (l : List UInt8) : mst 3 l = if l.takeWhile dig = [] then aft4 3 l else 0 := by
  cases l with
  | nil => rfl
  | cons b l =>
    rw [mst]
    cases h : dig b
    · rw [List.takeWhile_cons, h]
      simp only [Bool.false_eq_true, if_false, if_true]
      exact aft4_step (.inl rfl) h l 3
    · rw [st_dig h (by decide) (by decide), List.takeWhile_cons, h, if_pos rfl, if_neg (by simp)]
      exact mst_0 _
/-- From the digits of the whole on: a is 1 or 2, and no sign stands first where a is 1. -/
theorem mst12 (a : Int) (ha : a = 1 ∨ a = 2) (l : List UInt8) (hs : a = 1 → ∀ b r, l = b :: r → b.toNat ≠ 45) :
    mst a l = if l.dropWhile dig ≠ [] ∧ l.takeWhile dig = [] then 0 else if 1 < (l.takeWhile dig).length ∧ (l.takeWhile dig).head? = some 48 then 0
      else if l.takeWhile dig = [] then a else aft4 (if (l.takeWhile dig).head? = some 48 then 3 else 4) (l.dropWhile dig) := by
  cases l with
  | nil => rfl
  | cons b l =>
    rw [mst]
    cases h : dig b
    · rw [List.takeWhile_cons, List.dropWhile_cons, h]
      simp only [Bool.false_eq_true, if_false]
      rw [if_pos (by simp), st_non h]
      repeat' split
      all_goals first | exact mst_0 _ | omega | (exact absurd (by assumption) (hs (by assumption) _ _ rfl))
    · rw [List.takeWhile_cons, List.dropWhile_cons, h]
      simp only [if_true]
      rw [if_neg (by simp)]
      by_cases hz : b = 48
      · subst hz
        have e : stepI a ((48 : UInt8).toNat : Int) = 3 := by
          show stepI a 48 = 3
          unfold stepI
          rw [if_pos rfl, if_pos ha]
        rw [e, mst3]
        cases l with
        | nil => simp [aft4]
        | cons c l =>
          cases hc : dig c
          · rw [List.takeWhile_cons, List.dropWhile_cons, hc]
            simp
          · rw [List.takeWhile_cons, hc]
            simp
      · have e : stepI a b.toNat = 4 := by
          rw [dig_iff] at h
          have : b.toNat ≠ 48 := fun hc => hz (UInt8.toNat_inj.1 hc)
          unfold stepI
          rw [if_neg (by omega), if_pos (by omega)]
          rcases ha with rfl | rfl <;> rfl
        rw [e, mst4, if_neg (by simp [hz]), if_neg (by simp), if_neg (by simp [hz])]

/-! The parts of a text. -/
structure Parts where
  whole : List UInt8
  part : List UInt8
  tail : List UInt8
  begins : Bool
  is : Bool
def noParts : Parts := ⟨[], [], [], false, false⟩
def negL : List UInt8 → Bool
  | [] => false
  | b :: _ => decide (b.toNat = 45)
def unsigned (l : List UInt8) : List UInt8 := if negL l then l.drop 1 else l
/-- x: what stands behind the e. -/
def partsE (W F x : List UInt8) : Parts := if (sgn x).all dig then ⟨W, F, x, true, decide (sgn x ≠ [])⟩ else noParts
def partsX (W F : List UInt8) : List UInt8 → Parts
  | [] => noParts
  | c :: x => if isE c then partsE W F x else noParts
def partsF (W : List UInt8) (r : List UInt8) : Parts :=
  if r.dropWhile dig = [] then ⟨W, r.takeWhile dig, [], true, decide (r.takeWhile dig ≠ [])⟩
  else if r.takeWhile dig = [] then noParts else partsX W (r.takeWhile dig) (r.dropWhile dig)
def partsW (W : List UInt8) : List UInt8 → Parts
  | [] => ⟨W, [], [], true, decide (W ≠ [])⟩
  | c :: r => if c.toNat = 46 then partsF W r else partsX W [] (c :: r)
def partsU (u : List UInt8) : Parts :=
  if u.dropWhile dig ≠ [] ∧ u.takeWhile dig = [] then noParts
  else if 1 < (u.takeWhile dig).length ∧ (u.takeWhile dig).head? = some 48 then noParts
  else partsW (u.takeWhile dig) (u.dropWhile dig)
def parts (l : List UInt8) : Parts := partsU (unsigned l)

def Agree (p : Parts) (a : Int) : Prop := p.begins = decide (a ≠ 0) ∧ p.is = compB a
theorem agree_no : Agree noParts 0 := ⟨rfl, rfl⟩
theorem agree_E (W F x : List UInt8) : Agree (partsE W F x) (mst 7 x) := by
  unfold partsE
  rw [mst7]
  by_cases h : x = []
  · subst h; exact ⟨rfl, rfl⟩
  · rw [if_neg h]
    by_cases h2 : sgn x = []
    · rw [h2]; exact ⟨rfl, rfl⟩
    · rw [if_neg h2]
      cases (sgn x).all dig
      · exact ⟨rfl, rfl⟩
      · simp only [if_true]
        exact ⟨rfl, by simp [h2, compB]⟩
theorem agree_X (W F l : List UInt8) (h : l ≠ []) : Agree (partsX W F l) (aft6 l) := by
  cases l with
  | nil => exact absurd rfl h
  | cons c x =>
    simp only [partsX, aft6]
    by_cases h : isE c = true
    · rw [if_pos h, if_pos h]; exact agree_E W F x
    · rw [if_neg h, if_neg h]; exact agree_no
theorem agree_F (W r : List UInt8) : Agree (partsF W r) (mst 5 r) := by
  rw [mst5]
  unfold partsF
  by_cases h : r = []
  · subst h; exact ⟨rfl, rfl⟩
  · rw [if_neg h]
    by_cases h1 : r.dropWhile dig = []
    · rw [if_pos h1]
      by_cases h2 : r.takeWhile dig = []
      · exfalso
        have := List.takeWhile_append_dropWhile (p := dig) (l := r)
        rw [h1, h2] at this
        exact h this.symm
      · rw [if_neg h2, h1]
        exact ⟨rfl, by simp [h2, aft6, compB]⟩
    · rw [if_neg h1]
      by_cases h2 : r.takeWhile dig = []
      · rw [if_pos h2, if_pos h2]; exact agree_no
      · rw [if_neg h2, if_neg h2]; exact agree_X _ _ _ h1
theorem agree_W (W l : List UInt8) (z : Int) (hz : z = 3 ∨ z = 4) (hW : W ≠ []) : Agree (partsW W l) (aft4 z l) := by
  cases l with
  | nil =>
    refine ⟨?_, ?_⟩
    · show true = decide (z ≠ 0)
      rw [decide_eq_true (by omega)]
    · show decide (W ≠ []) = compB z
      unfold compB
      rw [decide_eq_true hW, decide_eq_true (by omega)]
  | cons c r =>
    simp only [partsW, aft4]
    by_cases h : c.toNat = 46
    · rw [if_pos h, if_pos h]; exact agree_F W r
    · rw [if_neg h, if_neg h]
      exact agree_X W [] (c :: r) (by simp)
theorem agree_U (a : Int) (ha : a = 1 ∨ a = 2) (u : List UInt8) (hs : a = 1 → ∀ b r, u = b :: r → b.toNat ≠ 45) : Agree (partsU u) (mst a u) := by
  rw [mst12 a ha u hs]
  unfold partsU
  split
  · exact agree_no
  · rename_i h1
    split
    · exact agree_no
    · by_cases h : u.takeWhile dig = []
      · have h2 : u.dropWhile dig = [] := by
          apply Decidable.byContradiction
          intro hc
          exact h1 ⟨hc, h⟩
        rw [if_pos h, h, h2]
        refine ⟨?_, ?_⟩
        · show true = decide (a ≠ 0)
          rw [decide_eq_true (by omega)]
        · show decide (([] : List UInt8) ≠ []) = compB a
          unfold compB
          rw [decide_eq_false (by simp), decide_eq_false (by omega)]
      · rw [if_neg h]
        exact agree_W _ _ _ (by split <;> simp) h
theorem agree_all (l : List UInt8) : Agree (parts l) (mst 1 l) := by
  unfold parts unsigned
  cases l with
  | nil => exact agree_U 1 (.inl rfl) [] (by intro _ _ _ h; cases h)
  | cons b l =>
    by_cases h : b.toNat = 45
    · rw [show negL (b :: l) = true from decide_eq_true h, if_pos rfl]
      have e : stepI 1 b.toNat = 2 := by
        rw [show (b.toNat : Int) = 45 from by omega]
        rfl
      rw [mst, e]
      exact agree_U 2 (.inr rfl) l (by intro h; cases h)
    · rw [show negL (b :: l) = false from decide_eq_false h, if_neg (by decide)]
      refine agree_U 1 (.inl rfl) (b :: l) ?_
      intro _ c r hc
      injection hc with h1 h2
      subst h1
      exact h
def begB (l : List UInt8) : Bool := decide (mst 1 l ≠ 0)
def isB (l : List UInt8) : Bool := compB (mst 1 l)
theorem parts_begins (l : List UInt8) : (parts l).begins = begB l := (agree_all l).1
theorem parts_is (l : List UInt8) : (parts l).is = isB l := (agree_all l).2
theorem is_begins {l : List UInt8} (h : isB l = true) : begB l = true := by
  unfold isB compB at h
  unfold begB
  have := of_decide_eq_true h
  exact decide_eq_true (by omega)
theorem beg_take {l : List UInt8} (k : Nat) (h : begB l = true) : begB (l.take k) = true := by
  unfold begB at *
  have h := of_decide_eq_true h
  refine decide_eq_true fun hc => h ?_
  rw [← List.take_append_drop k l, mst_append, hc, mst_0]
end Go.Proofs.YtjepnddndpmnnaaGreat.Nm
namespace Go.Proofs.YtjepnddndpmnnaaGreat
open Go.RowKit Go.Sort Go.Lib Go.Shelf
set_option maxRecDepth 100000
set_option linter.unusedSimpArgs false
set_option linter.unusedVariables false

/-- The table's entry. -/
def tabN (zs : List Int) (q : Nat) : Nat := (zs.getD q 0).toNat
def okTab (zs : List Int) : Prop := zs.length = 20 ∧ ∀ z ∈ zs, 0 ≤ z ∧ z < 18446744073709551616
/-- A table of the library, whichever. -/
class Tab where
  zs : List Int
  ok : okTab zs
/-- How many digits numDigits tells. -/
def ndT (zs : List Int) (u : Nat) : Nat := l10 (Lib.bitLen u) + if tabN zs (l10 (Lib.bitLen u)) ≤ u then 1 else 0

def rowT (nd u : Nat) : Array UInt8 := if nd = 2 then ((Array.replicate 2 (0 : UInt8)).setIfInBounds 1 (sm (u % 100 * 2 + 1))).setIfInBounds 0 (sm (u % 100 * 2)) else ((List.range nd).map fun t => dg u (nd - 1 - t)).toArray
theorem rowT_size (nd u : Nat) : (rowT nd u).size = nd := by
  unfold rowT
  split
  · rename_i h; simp [h]
  · simp
theorem l10_range {u : Nat} (h0 : 100 ≤ u) (h1 : u < 1000) : l10 (Lib.bitLen u) = 2 ∨ l10 (Lib.bitLen u) = 3 := by
  have h : ∀ u : Fin 1000, 100 ≤ u.val → l10 (Lib.bitLen u.val) = 2 ∨ l10 (Lib.bitLen u.val) = 3 := by decide +kernel
  exact h ⟨u, h1⟩ h0
theorem ndT_range (zs : List Int) {u : Nat} (h0 : 100 ≤ u) (h1 : u < 1000) : ndT zs u = 2 ∨ ndT zs u = 3 ∨ ndT zs u = 4 := by
  have := l10_range h0 h1
  unfold ndT
  split <;> omega
def digsT (zs : List Int) (u : Nat) : List UInt8 := if u < 100 then decDigits u else (rowT (ndT zs u) u).toList

def itoaT (zs : List Int) (i : Int) : List UInt8 := if i < 0 then 45 :: digsT zs i.natAbs else digsT zs i.natAbs
theorem digsT_len (zs : List Int) {u : Nat} (hu : u < 1000) : (digsT zs u).length ≤ 4 := by
  unfold digsT
  split
  · rw [decDigits_length]
    by_cases h10 : u < 10
    · rw [nDigits_small h10]; omega
    · rw [nDigits_big h10, nDigits_small (show u / 10 < 10 by omega)]; omega
  · rw [Array.length_toList, rowT_size]
    have := ndT_range zs (show 100 ≤ u by omega) hu
    omega
end Go.Proofs.YtjepnddndpmnnaaGreat
