/-
  The value of a number, its normal form, and the order of values, as plain functions.
-/
import Derived.Test.YtjepnddndpmnnaaGreatDoorGwA02
import Derived.Lib.TrimByte
import Derived.Lib.ItoaNum
import Derived.Lib.ItoaLen
import Derived.Lib.AtoiAll
import Derived.Lib.Small
namespace Go.Proofs.YtjepnddndpmnnaaGreatDoor.Nm

/-! Exponents. -/
def decStep (acc : Nat) (b : UInt8) : Nat := 10 * acc + (b.toNat - 48)
def decN (acc : Nat) (l : List UInt8) : Nat := l.foldl decStep acc
/-- 2^40. -/
def B40 : Nat := 1099511627776
def satStep (acc : Nat) (b : UInt8) : Nat := if dig b = true ∧ acc < B40 then 10 * acc + (b.toNat - 48) else acc
def satN (acc : Nat) : List UInt8 → Nat
  | [] => acc
  | b :: l => satN (satStep acc b) l
theorem satStep_yes {acc : Nat} {b : UInt8} (h : dig b = true) (h2 : acc < B40) : satStep acc b = 10 * acc + (b.toNat - 48) := if_pos ⟨h, h2⟩
theorem satStep_no {acc : Nat} {b : UInt8} (h : ¬ (dig b = true ∧ acc < B40)) : satStep acc b = acc := if_neg h
theorem decN_nil (acc : Nat) : decN acc [] = acc := by unfold decN; rw [List.foldl_nil]
theorem decN_cons (acc : Nat) (b : UInt8) (l : List UInt8) : decN acc (b :: l) = decN (10 * acc + (b.toNat - 48)) l := by unfold decN; rw [List.foldl_cons, decStep]
theorem satN_yes {acc : Nat} {b : UInt8} (h : dig b = true) (h2 : acc < B40) (l : List UInt8) : satN acc (b :: l) = satN (10 * acc + (b.toNat - 48)) l := by rw [satN, satStep_yes h h2]
theorem satN_no {acc : Nat} {b : UInt8} (h : ¬ (dig b = true ∧ acc < B40)) (l : List UInt8) : satN acc (b :: l) = satN acc l := by rw [satN, satStep_no h]
theorem decN_ge (l : List UInt8) (acc : Nat) : acc ≤ decN acc l := by
  induction l generalizing acc with
  | nil => rw [decN_nil]; exact Nat.le_refl _
  | cons b l ih => rw [decN_cons]; exact Nat.le_trans (by omega) (ih _)
theorem satN_big (l : List UInt8) (acc : Nat) (h : B40 ≤ acc) : satN acc l = acc := by
  induction l generalizing acc with
  | nil => rfl
  | cons b l ih => rw [satN_no (fun hc => by have := hc.2; omega), ih _ h]
theorem satN_cases (l : List UInt8) (hl : l.all dig = true) (acc : Nat) : satN acc l = decN acc l ∨ (B40 ≤ satN acc l ∧ B40 ≤ decN acc l) := by
  induction l generalizing acc with
  | nil => rw [decN_nil]; exact .inl rfl
  | cons b l ih =>
    rw [List.all_cons, Bool.and_eq_true] at hl
    by_cases h : acc < B40
    · rw [satN_yes hl.1 h, decN_cons]
      exact ih hl.2 _
    · refine .inr ⟨?_, ?_⟩
      · rw [satN_big _ _ (Nat.le_of_not_lt h)]; exact Nat.le_of_not_lt h
      · exact Nat.le_trans (Nat.le_of_not_lt h) (decN_ge (b :: l) acc)
theorem parse_dec (l : List UInt8) (hl : l.all dig = true) (acc : Nat) (ha : acc < 18446744073709551616) :
    Lib.parseUint10 acc l = if decN acc l < 18446744073709551616 then .ok (decN acc l) else .range := by
  induction l generalizing acc with
  | nil => rw [decN_nil, if_pos ha]; rfl
  | cons b l ih =>
    rw [List.all_cons, Bool.and_eq_true, dig_iff] at hl
    have hge := decN_ge l (10 * acc + (b.toNat - 48))
    have hd := decN_cons acc b l
    rw [Lib.parseUint10, if_pos hl.1, hd]
    by_cases h1 : 1844674407370955162 ≤ acc
    · rw [if_pos h1]
      exact (if_neg (by omega)).symm
    · rw [if_neg h1]
      by_cases h2 : 18446744073709551616 ≤ acc * 10 + (b.toNat - 48)
      · rw [if_pos h2]
        exact (if_neg (by omega)).symm
      · rw [if_neg h2, show acc * 10 + (b.toNat - 48) = 10 * acc + (b.toNat - 48) from by omega]
        exact ih hl.2 _ (by omega)
/-- The exponent that stands behind the e; 0 where nothing stands there. -/
def eexp (t : List UInt8) : Int := if negL t then -(decN 0 (sgn t) : Int) else decN 0 (sgn t)
def esat (t : List UInt8) : Int := if negL t then -(satN 0 t : Int) else satN 0 t
theorem satN_sgn (t : List UInt8) : satN 0 t = satN 0 (sgn t) := by
  cases t with
  | nil => rfl
  | cons b l =>
    unfold sgn
    by_cases h : isPM b = true
    · have hd : dig b = false := by unfold isPM at h; rw [dig_not]; have := of_decide_eq_true h; omega
      simp only [h, if_true]
      rw [satN_no (by rw [hd]; simp)]
    · simp only [h]
      rfl
def clampI (n : Int) : Int := max (-2058) (min n 2058)
/-- What Atoi answers, and the exponent's clamp of it. -/
def endI (e : Lib.NumEnd Int) (sat : Int) : Int := match e with | .ok v => v | .range => sat | _ => 0
def atoiI (t : List UInt8) : Int := endI (Lib.atoiAll t) (Lib.atoiSat t)
theorem isPM_iff (b : UInt8) : isPM b = true ↔ b.toNat = 43 ∨ b.toNat = 45 := by unfold isPM; simp
theorem atoi_tail (t : List UInt8) (h1 : sgn t ≠ []) (h2 : (sgn t).all dig = true) : (Lib.atoiAll t = .range ∨ ∃ v, Lib.atoiAll t = .ok v) ∧ clampI (atoiI t) = clampI (eexp t) := by
  cases t with
  | nil => exact absurd rfl h1
  | cons c r =>
    have e1 : (if c.toNat = 43 ∨ c.toNat = 45 then r else c :: r) = sgn (c :: r) := by
      simp only [sgn]
      by_cases h : c.toNat = 43 ∨ c.toNat = 45
      · rw [if_pos h, if_pos ((isPM_iff c).2 h)]
      · rw [if_neg h, if_neg (fun hc => h ((isPM_iff c).1 hc))]
    have e2 : Lib.parseMag (sgn (c :: r)) = if decN 0 (sgn (c :: r)) < 18446744073709551616 then .ok (decN 0 (sgn (c :: r))) else .range := by
      unfold Lib.parseMag
      rw [if_neg h1, parse_dec _ h2 0 (by omega)]
    have e3 : negL (c :: r) = decide (c.toNat = 45) := rfl
    have e4 : Lib.atoiSat (c :: r) = if c.toNat = 45 then -9223372036854775808 else 9223372036854775807 := by
      unfold Lib.atoiSat
      simp
    unfold atoiI eexp
    rw [e3, e4]
    simp only [Lib.atoiAll, e1, e2]
    generalize decN 0 (sgn (c :: r)) = n
    by_cases hn : n < 18446744073709551616
    · rw [if_pos hn]
      simp only [decide_eq_true_eq]
      by_cases hc : c.toNat = 45
      · simp only [hc, not_true_eq_false, false_and, if_false, true_and, if_true]
        by_cases hb : 9223372036854775808 < n
        · rw [if_pos hb]
          refine ⟨.inl rfl, ?_⟩
          unfold clampI endI; simp only []; omega
        · rw [if_neg hb]; exact ⟨.inr ⟨_, rfl⟩, rfl⟩
      · simp only [hc, not_false_eq_true, true_and, false_and, if_false]
        by_cases hb : 9223372036854775808 ≤ n
        · rw [if_pos hb]
          refine ⟨.inl rfl, ?_⟩
          unfold clampI endI; simp only []; omega
        · rw [if_neg hb]; exact ⟨.inr ⟨_, rfl⟩, rfl⟩
    · rw [if_neg hn]
      refine ⟨.inl rfl, ?_⟩
      simp only [decide_eq_true_eq]
      unfold clampI endI
      simp only []
      split <;> omega
/-- Alike as far as a normal form may reach. -/
def Near (e e' : Int) : Prop := e' = e ∨ (1100 < e ∧ 1100 < e') ∨ (e < -1100 ∧ e' < -1100)
theorem near_clamp (e : Int) : Near e (clampI e) := by unfold Near clampI; omega
theorem near_sat (t : List UInt8) (h2 : (sgn t).all dig = true) : Near (eexp t) (esat t) := by
  unfold eexp esat
  rw [satN_sgn]
  have := satN_cases (sgn t) h2 0
  unfold B40 at this
  unfold Near
  split <;> omega
theorem near_atoi (t : List UInt8) (h1 : sgn t ≠ []) (h2 : (sgn t).all dig = true) : Near (eexp t) (clampI (atoiI t)) := by
  rw [(atoi_tail t h1 h2).2]
  exact near_clamp _

/-! Values. -/
structure Val where
  neg : Bool
  digs : List UInt8
  pow : Int
  deriving DecidableEq
def allD (l : List UInt8) : List UInt8 := (parts l).whole ++ (parts l).part
def rightD (l : List UInt8) : List UInt8 := Lib.trimRightB (allD l) 48
def digsD (l : List UInt8) : List UInt8 := Lib.trimLeftB (rightD l) 48
def powD (l : List UInt8) (e : Int) : Int := e + ((allD l).length : Int) - (rightD l).length - (parts l).part.length
def valE (l : List UInt8) (e : Int) : Val := if digsD l = [] then ⟨false, [], 0⟩ else ⟨negL l, digsD l, powD l e⟩
section
set_option linter.unusedSectionVars false
variable [Tab]
def tailI (p : Int) : List UInt8 := if p = 0 then [] else 101 :: itoaT Tab.zs p
def formL (v : Val) : List UInt8 := if v.digs = [] then [48] else (if v.neg then [45] else []) ++ v.digs ++ tailI v.pow
def okV (v : Val) : Bool := decide (-999 ≤ v.pow ∧ v.pow ≤ 999 ∧ (formL v).length ≤ 30)
def readE (l : List UInt8) (e : Int) : Option Val := if isB l = true ∧ l.length ≤ 30 then (if okV (valE l e) then some (valE l e) else none) else none
def readL (l : List UInt8) : Option Val := readE l (eexp (parts l).tail)

theorem unsigned_len (l : List UInt8) : (unsigned l).length ≤ l.length := by unfold unsigned; split <;> simp
theorem tw_dw (l : List UInt8) : (l.takeWhile dig).length + (l.dropWhile dig).length = l.length := by
  rw [← List.length_append, List.takeWhile_append_dropWhile]
theorem partsX_len (W F r : List UInt8) : ((partsX W F r).whole.length + (partsX W F r).part.length) ≤ W.length + F.length := by
  cases r with
  | nil => simp [partsX, noParts]
  | cons c x =>
    simp only [partsX]
    by_cases h : isE c = true
    · rw [if_pos h]
      unfold partsE
      split
      · exact Nat.le_refl _
      · simp [noParts]
    · rw [if_neg h]; simp [noParts]
theorem partsW_len (W r : List UInt8) : ((partsW W r).whole.length + (partsW W r).part.length) ≤ W.length + r.length := by
  cases r with
  | nil => simp [partsW]
  | cons c r =>
    simp only [partsW]
    by_cases h : c.toNat = 46
    · rw [if_pos h]
      unfold partsF
      have := tw_dw r
      split
      · simp; omega
      · split
        · simp [noParts]
        · refine Nat.le_trans (partsX_len _ _ _) ?_
          simp; omega
    · rw [if_neg h]
      refine Nat.le_trans (partsX_len _ _ _) ?_
      simp
theorem parts_len (l : List UInt8) : ((parts l).whole.length + (parts l).part.length) ≤ l.length := by
  unfold parts partsU
  have := unsigned_len l
  split
  · simp [noParts]
  · split
    · simp [noParts]
    · have h1 := tw_dw (unsigned l)
      exact Nat.le_trans (partsW_len _ _) (by omega)
theorem trimR_len (l : List UInt8) (c : UInt8) : (Lib.trimRightB l c).length ≤ l.length := by
  unfold Lib.trimRightB
  rw [List.length_reverse]
  exact Nat.le_trans (List.dropWhile_suffix _).sublist.length_le (by simp)
theorem trimL_len (l : List UInt8) (c : UInt8) : (Lib.trimLeftB l c).length ≤ l.length := (List.dropWhile_suffix _).sublist.length_le
theorem readE_near (l : List UInt8) (e e' : Int) (h : Near e e') : readE l e' = readE l e := by
  unfold readE
  by_cases hl : isB l = true ∧ l.length ≤ 30
  · rw [if_pos hl, if_pos hl]
    rcases h with h | h
    · rw [h]
    · have h1 := parts_len l
      have h2 := trimR_len (allD l) 48
      have h3 : (allD l).length = (parts l).whole.length + (parts l).part.length := by unfold allD; simp
      by_cases hd : digsD l = []
      · unfold valE; rw [if_pos hd, if_pos hd]
      · have hk : ∀ x : Int, (1100 < x ∨ x < -1100) → okV (valE l x) = false := by
          intro x hx
          unfold okV valE
          rw [if_neg hd]
          refine decide_eq_false ?_
          simp only [powD]
          unfold rightD
          omega
        rw [hk e (by omega), hk e' (by omega)]
        rfl
  · rw [if_neg hl, if_neg hl]

end
/-! Order. -/
def lexC : List UInt8 → List UInt8 → Int
  | [], [] => 0
  | [], _ :: _ => -1
  | _ :: _, [] => 1
  | a :: x, b :: y => if a.toNat < b.toNat then -1 else if b.toNat < a.toNat then 1 else lexC x y
theorem lexC_self (x : List UInt8) : lexC x x = 0 := by
  induction x with
  | nil => rfl
  | cons a x ih => simp [lexC, ih]
theorem lexC_swap (x y : List UInt8) : lexC y x = - lexC x y := by
  induction x generalizing y with
  | nil => cases y <;> rfl
  | cons a x ih =>
    cases y with
    | nil => rfl
    | cons b y =>
      simp only [lexC]
      by_cases h1 : a.toNat < b.toNat
      · rw [if_pos h1, if_neg (show ¬ b.toNat < a.toNat by omega), if_pos h1]; rfl
      · by_cases h2 : b.toNat < a.toNat
        · rw [if_neg h1, if_pos h2, if_pos h2]; simp only [if_neg h1]
        · rw [if_neg h1, if_neg h2, if_neg h1, if_neg h2, ih]
theorem lexC_01 (x y : List UInt8) : lexC x y = -1 ∨ lexC x y = 0 ∨ lexC x y = 1 := by
  induction x generalizing y with
  | nil => cases y <;> simp [lexC]
  | cons a x ih =>
    cases y with
    | nil => simp [lexC]
    | cons b y =>
      simp only [lexC]
      split
      · exact .inl rfl
      · split
        · exact .inr (.inr rfl)
        · exact ih y
theorem lexC_zero {x y : List UInt8} (h : lexC x y = 0) : x = y := by
  induction x generalizing y with
  | nil => cases y with
    | nil => rfl
    | cons b y => cases h
  | cons a x ih =>
    cases y with
    | nil => cases h
    | cons b y =>
      simp only [lexC] at h
      split at h
      · omega
      · split at h
        · omega
        · rw [ih h, UInt8.toNat_inj.1 (show a.toNat = b.toNat by omega)]
theorem lexC_trans {x y z : List UInt8} (h1 : lexC x y ≤ 0) (h2 : lexC y z ≤ 0) : lexC x z ≤ 0 := by
  induction x generalizing y z with
  | nil => cases z <;> simp [lexC]
  | cons a x ih =>
    cases y with
    | nil => simp [lexC] at h1
    | cons b y =>
      cases z with
      | nil => simp [lexC] at h2
      | cons c z =>
        simp only [lexC] at *
        by_cases k1 : a.toNat < b.toNat
        · by_cases k2 : b.toNat < c.toNat
          · rw [if_pos (by omega)]; decide
          · rw [if_neg k2] at h2
            by_cases k3 : c.toNat < b.toNat
            · rw [if_pos k3] at h2; omega
            · rw [if_pos (by omega)]; decide
        · rw [if_neg k1] at h1
          by_cases k2 : b.toNat < a.toNat
          · rw [if_pos k2] at h1; omega
          · rw [if_neg k2] at h1
            by_cases k3 : b.toNat < c.toNat
            · rw [if_pos (by omega)]; decide
            · rw [if_neg k3] at h2
              by_cases k4 : c.toNat < b.toNat
              · rw [if_pos k4] at h2; omega
              · rw [if_neg k4] at h2
                rw [if_neg (by omega), if_neg (by omega)]
                exact ih h1 h2
def cmpI (a b : Int) : Int := if a < b then -1 else if b < a then 1 else 0
def sgI (v : Val) : Int := if v.digs = [] then 0 else if v.neg then -1 else 1
def cmpSz (x y : Val) : Int := if cmpI (x.digs.length + x.pow) (y.digs.length + y.pow) ≠ 0 then cmpI (x.digs.length + x.pow) (y.digs.length + y.pow) else lexC x.digs y.digs
def cmpV (x y : Val) : Int := if sgI x ≠ sgI y then cmpI (sgI x) (sgI y) else sgI x * cmpSz x y
theorem cmpI_swap (a b : Int) : cmpI b a = - cmpI a b := by unfold cmpI; repeat' split
                                                            all_goals omega
theorem cmpI_zero {a b : Int} (h : cmpI a b = 0) : a = b := by unfold cmpI at h; repeat' split at h
                                                               all_goals omega
theorem cmpI_self (a : Int) : cmpI a a = 0 := by unfold cmpI; simp
theorem cmpI_le {a b : Int} (h : ¬ cmpI a b = 0) (h1 : cmpI a b ≤ 0) : a < b := by
  unfold cmpI at h h1
  by_cases k : a < b
  · exact k
  · rw [if_neg k] at h h1
    by_cases k2 : b < a
    · rw [if_pos k2] at h1; omega
    · rw [if_neg k2] at h; exact absurd rfl h
theorem cmpI_lt {a b c : Int} (h : a < b) (h1 : b < c) : cmpI a c = -1 := by unfold cmpI; exact if_pos (by omega)
theorem cmpSz_swap (x y : Val) : cmpSz y x = - cmpSz x y := by
  unfold cmpSz
  rw [cmpI_swap (x.digs.length + x.pow), lexC_swap x.digs]
  by_cases h : cmpI (x.digs.length + x.pow) (y.digs.length + y.pow) = 0
  · rw [if_neg (by omega), if_neg (by omega)]
  · rw [if_pos (by omega), if_pos (by omega)]
theorem cmpSz_trans {x y z : Val} (h1 : cmpSz x y ≤ 0) (h2 : cmpSz y z ≤ 0) : cmpSz x z ≤ 0 := by
  unfold cmpSz at *
  by_cases k1 : cmpI (x.digs.length + x.pow) (y.digs.length + y.pow) = 0
  · rw [if_neg (by omega)] at h1
    have e1 := cmpI_zero k1
    rw [e1]
    by_cases k2 : cmpI (y.digs.length + y.pow) (z.digs.length + z.pow) = 0
    · rw [if_neg (by omega)] at h2
      rw [if_neg (by omega)]
      exact lexC_trans h1 h2
    · rw [if_pos k2] at h2
      rw [if_pos k2]; exact h2
  · rw [if_pos k1] at h1
    by_cases k2 : cmpI (y.digs.length + y.pow) (z.digs.length + z.pow) = 0
    · have e2 := cmpI_zero k2
      rw [← e2, if_pos k1]; exact h1
    · rw [if_pos k2] at h2
      have hm : cmpI (x.digs.length + x.pow) (z.digs.length + z.pow) = -1 := cmpI_lt (cmpI_le k1 h1) (cmpI_le k2 h2)
      rw [hm, if_pos (by omega)]; omega
theorem sg_01 (x : Val) : sgI x = -1 ∨ sgI x = 0 ∨ sgI x = 1 := by unfold sgI; repeat' split
                                                                   all_goals omega
theorem cmpV_swap (x y : Val) : cmpV y x = - cmpV x y := by
  unfold cmpV
  by_cases h : sgI x = sgI y
  · rw [if_neg (by omega), if_neg (by omega), cmpSz_swap x y, h, Int.mul_neg]
  · rw [if_pos (by omega), if_pos (by omega), cmpI_swap]
theorem cmpV_self (x : Val) : cmpV x x = 0 := by
  unfold cmpV cmpSz
  rw [if_neg (by simp), if_neg (by rw [cmpI_self]; simp), lexC_self]
  omega
theorem cmpV_trans {x y z : Val} (h1 : cmpV x y ≤ 0) (h2 : cmpV y z ≤ 0) : cmpV x z ≤ 0 := by
  unfold cmpV at *
  have a := sg_01 x
  have b := sg_01 y
  have c := sg_01 z
  by_cases k1 : sgI x = sgI y
  · rw [if_neg (by omega)] at h1
    by_cases k2 : sgI y = sgI z
    · rw [if_neg (by omega)] at h2
      rw [if_neg (by omega)]
      rcases a with a | a | a
      · rw [a] at h1 ⊢
        rw [show sgI y = -1 from by omega] at h2
        have := @cmpSz_trans z y x (by have := cmpSz_swap y z; omega) (by have := cmpSz_swap x y; omega)
        have := cmpSz_swap x z
        omega
      · rw [a]; omega
      · rw [a] at h1 ⊢
        rw [show sgI y = 1 from by omega] at h2
        have := @cmpSz_trans x y z (by omega) (by omega)
        omega
    · rw [if_pos k2] at h2
      rw [if_pos (by omega), k1]; exact h2
  · rw [if_pos k1] at h1
    by_cases k2 : sgI y = sgI z
    · rw [if_pos (by omega), ← k2]; exact h1
    · rw [if_pos k2] at h2
      unfold cmpI at h1 h2 ⊢
      repeat' split at h1
      all_goals repeat' split at h2
      all_goals repeat' split
      all_goals omega
/-- Written as a value is: no nought at either end, and 0 plainly. -/
def CanV (v : Val) : Prop := (v.digs = [] → v.neg = false ∧ v.pow = 0) ∧ v.digs.head? ≠ some 48 ∧ v.digs.getLast? ≠ some 48 ∧ v.digs.all dig = true
theorem cmpV_zero {x y : Val} (hx : CanV x) (hy : CanV y) (h : cmpV x y = 0) : x = y := by
  unfold cmpV at h
  by_cases k : sgI x = sgI y
  · rw [if_neg (by omega)] at h
    by_cases h0 : x.digs = []
    · have : y.digs = [] := by
        unfold sgI at k
        rw [if_pos h0] at k
        apply Decidable.byContradiction
        intro hc
        rw [if_neg hc] at k
        split at k <;> omega
      have a := hx.1 h0
      have b := hy.1 this
      cases x; cases y
      simp only at *
      rw [h0, this, a.1, b.1, a.2, b.2]
    · have h0' : y.digs ≠ [] := by
        intro hc
        unfold sgI at k
        rw [if_neg h0, if_pos hc] at k
        split at k <;> omega
      have hs : x.neg = y.neg := by
        unfold sgI at k
        rw [if_neg h0, if_neg h0'] at k
        cases hx1 : x.neg <;> cases hy1 : y.neg <;> rw [hx1, hy1] at k <;> first | rfl | (simp at k)
      have hz : cmpSz x y = 0 := by
        have : sgI x = 1 ∨ sgI x = -1 := by unfold sgI; rw [if_neg h0]; split <;> omega
        rcases this with e | e <;> rw [e] at h <;> omega
      unfold cmpSz at hz
      by_cases kk : cmpI (x.digs.length + x.pow) (y.digs.length + y.pow) = 0
      · rw [if_neg (by omega)] at hz
        have e1 := lexC_zero hz
        have e2 := cmpI_zero kk
        rw [e1] at e2
        have e3 : x.pow = y.pow := by omega
        cases x; cases y
        simp only at *
        rw [e1, e3, hs]
      · rw [if_pos kk] at hz; exact absurd hz kk
  · rw [if_pos k] at h
    exact absurd (cmpI_zero h) k
end Go.Proofs.YtjepnddndpmnnaaGreatDoor.Nm
