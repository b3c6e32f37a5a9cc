/-
  The reference's Bad says where a Scan stops. No program is read here.
-/
import Derived.Test.YtfciacigamjfkabGreatDmS33
import Derived.Test.YtfciacigamjfkabGreatDmS29
namespace Go.Proofs.YtfciacigamjfkabGreat
set_option maxRecDepth 100000
set_option linter.unusedSimpArgs false
set_option linter.unusedVariables false
set_option linter.unusedSectionVars false
variable [Tab] [Fo]

def sc0 (l : List UInt8) : Option (Int × Int × Int) := scG 0 128 191 l
theorem scG_append : ∀ (a b : List UInt8) (l lo hi : Int), scG l lo hi (a ++ b) = match scG l lo hi a with | some (p, q, r) => scG p q r b | none => none
  | [], b, l, lo, hi => by simp [scG]
  | c :: a, b, l, lo, hi => by
    simp only [List.cons_append, scG]
    split
    · exact scG_append a b _ _ _
    · rfl
theorem sc0_append {a b : List UInt8} {p q r : Int} (h : sc0 a = some (p, q, r)) : sc0 (a ++ b) = scG p q r b := by
  unfold sc0 at h ⊢; rw [scG_append, h]
theorem sc0_append_none {a : List UInt8} (b : List UInt8) (h : sc0 a = none) : sc0 (a ++ b) = none := by
  unfold sc0 at h ⊢; rw [scG_append, h]
theorem sc_zero (t : List UInt8) (q r p q2 r2 : Int) (h : sc0 t = some (p, q2, r2)) : ∃ q3 r3, scG 0 q r t = some (p, q3, r3) ∧ ∀ b, stOk p q3 r3 b = stOk p q2 r2 b := by
  cases t with
  | nil =>
    simp only [sc0, scG, Option.some.injEq, Prod.mk.injEq] at h
    obtain ⟨rfl, rfl, rfl⟩ := h
    exact ⟨q, r, rfl, fun b => rfl⟩
  | cons c t => exact ⟨q2, r2, h, fun b => rfl⟩
theorem sc_lohi : ∀ (t : List UInt8) (l lo hi : Int), 0 ≤ l → (0 < l → 128 ≤ lo ∧ lo ≤ hi ∧ hi ≤ 191) → ∀ p q r, scG l lo hi t = some (p, q, r) → 0 ≤ p ∧ (0 < p → 128 ≤ q ∧ q ≤ r ∧ r ≤ 191)
  | [], l, lo, hi, h0, h1, p, q, r, h => by
    simp only [scG, Option.some.injEq, Prod.mk.injEq] at h
    obtain ⟨rfl, rfl, rfl⟩ := h
    exact ⟨h0, h1⟩
  | b :: t, l, lo, hi, h0, h1, p, q, r, h => by
    simp only [scG] at h
    split at h
    · refine sc_lohi t _ _ _ ?_ ?_ p q r h
      · unfold stL; repeat' split
        all_goals omega
      · intro _; unfold stLo stHi; repeat' split
        all_goals omega
    · cases h
theorem sc0_inv {t : List UInt8} {p q r : Int} (h : sc0 t = some (p, q, r)) : 0 ≤ p ∧ (0 < p → 128 ≤ q ∧ q ≤ r ∧ r ≤ 191) := sc_lohi t 0 128 191 (Int.le_refl _) (fun h => absurd h (by decide)) p q r h

theorem oneL_app (a b : List UInt8) (h : (oneL a).2 ≠ 0) : oneL (a ++ b) = oneL a := by
  cases a with
  | nil => exact absurd rfl h
  | cons c t =>
    rw [List.cons_append]
    simp only [oneL] at h ⊢
    by_cases h1 : (c.toNat : Int) < 128
    · rw [if_pos h1, if_pos h1]
    · rw [if_neg h1] at h
      rw [if_neg h1, if_neg h1]
      by_cases h2 : leadN c.toNat = 0 ∨ ((t.length : Int) + 1 < leadN c.toNat)
      · rw [if_pos h2] at h; exact absurd rfl h
      · rw [if_neg h2]
        rw [if_neg (by rw [List.length_append]; omega), List.take_append_of_le_length (by omega)]
theorem oneL_cut (l : List UInt8) (h : (oneL l).2 ≠ 0) : oneL (l.take (oneL l).2.toNat) = oneL l := by
  cases l with
  | nil => exact absurd rfl h
  | cons c t =>
    by_cases h1 : (c.toNat : Int) < 128
    · have e : oneL (c :: t) = ((c.toNat : Int), 1) := by simp only [oneL]; rw [if_pos h1]
      rw [e]
      show oneL [c] = _
      simp only [oneL]
      rw [if_pos h1]
    · by_cases h2 : leadN c.toNat = 0 ∨ ((t.length : Int) + 1 < leadN c.toNat)
      · have e : oneL (c :: t) = (0, 0) := by simp only [oneL]; rw [if_neg h1, if_pos h2]
        rw [e] at h; exact absurd rfl h
      · have hn : 0 < leadN c.toNat := by
          have : 0 ≤ leadN c.toNat := by unfold leadN; repeat' split
                                         all_goals omega
          omega
        have e2 : (oneL (c :: t)).2 = leadN c.toNat := by
          simp only [oneL] at h ⊢
          rw [if_neg h1, if_neg h2] at h ⊢
          revert h
          cases tails (leadV c.toNat) (t.take (leadN c.toNat - 1).toNat) with
          | none => intro h; exact absurd rfl h
          | some v =>
            simp only
            split
            · intro _; rfl
            · intro h; exact absurd rfl h
        obtain ⟨m, hm⟩ : ∃ m : Nat, leadN c.toNat = (m : Int) + 1 := ⟨(leadN c.toNat - 1).toNat, by omega⟩
        have hk : (oneL (c :: t)).2.toNat = m + 1 := by rw [e2, hm]; omega
        rw [hk, List.take_succ_cons]
        simp only [oneL]
        rw [if_neg h1, if_neg h1, if_neg h2, if_neg (by rw [List.length_take, hm]; omega)]
        have h3 : (leadN c.toNat - 1).toNat = m := by omega
        rw [h3, List.take_take, Nat.min_self]
theorem one_none {l : List UInt8} (h : l ≠ []) (h1 : (oneL l).2 = 0) : runesL l = none := by
  cases l with
  | nil => exact absurd rfl h
  | cons c t =>
    have := charStep [] c t
    unfold CharStep at this
    rw [if_pos h1] at this
    exact this
theorem one_scan {l : List UInt8} (h : (oneL l).2 ≠ 0) : 1 ≤ (oneL l).2 ∧ (oneL l).2 ≤ l.length ∧ ∃ q r, sc0 (l.take (oneL l).2.toNat) = some (0, q, r) := by
  have hle := oneL_le l
  refine ⟨by omega, hle.2, ?_⟩
  have hc := oneL_cut l h
  have hlen : (l.take (oneL l).2.toNat).length = (oneL l).2.toNat := by rw [List.length_take]; omega
  generalize hm : l.take (oneL l).2.toNat = m at *
  cases m with
  | nil => simp at hlen; omega
  | cons c t =>
    have hs := charStep [] c t
    unfold CharStep at hs
    rw [hc, if_neg h] at hs
    have hd : (c :: t).drop (oneL l).2.toNat = [] := List.drop_eq_nil_of_le (by omega)
    rw [hd] at hs
    have hso : (runesL (c :: t)).isSome = true := by
      unfold runesL
      rw [hs.2.2]
      simp [runesGo, rn0]
    rw [sc_valid] at hso
    unfold sc0
    cases hg : scG 0 128 191 (c :: t) with
    | none => rw [hg] at hso; cases hso
    | some v =>
      obtain ⟨p, q, r⟩ := v
      rw [hg] at hso
      simp only [decide_eq_true_iff] at hso
      exact ⟨q, r, by rw [hso]⟩
/-- A beginning of what holds no whole character is not whole. -/
theorem one_nz {l a : List UInt8} (ha : a ≠ []) (h : (oneL (l)).2 = 0) (hp : ∃ b, l = a ++ b) {p q r : Int} (hs : sc0 a = some (p, q, r)) : (oneL a).2 = 0 ∧ p ≠ 0 := by
  obtain ⟨b, rfl⟩ := hp
  have h0 : (oneL a).2 = 0 := by
    by_cases hz : (oneL a).2 = 0
    · exact hz
    · rw [oneL_app a b hz] at h; exact h
  refine ⟨h0, ?_⟩
  rintro rfl
  have hn := one_none ha h0
  have hv := sc_valid a
  unfold sc0 at hs
  rw [hs, hn] at hv
  simp at hv
theorem take_ne {l : List UInt8} {k : Nat} (h : k + 1 ≤ l.length) : l.take (k + 1) ≠ [] := by
  intro e
  have := congrArg List.length e
  rw [List.length_take, List.length_nil] at this
  omega
theorem one_len {l : List UInt8} (h : (oneL l).2 = 0) : ∀ k, k + 1 ≤ l.length → ∀ p q r, sc0 (l.take (k + 1)) = some (p, q, r) → p + (k + 1) ≤ 4 := by
  intro k
  induction k with
  | zero =>
    intro hk p q r hs
    cases l with
    | nil => simp at hk
    | cons c t =>
      simp only [Nat.zero_add, List.take_succ_cons, List.take_zero, sc0, scG] at hs
      split at hs
      · simp only [Option.some.injEq, Prod.mk.injEq] at hs
        have := hs.1
        have h3 : stL 0 (c.toNat : Int) ≤ 3 := (stL_range (by omega) (by omega)).2
        omega
      · cases hs
  | succ k ih =>
    intro hk p q r hs
    have ht : l.take (k + 1 + 1) = l.take (k + 1) ++ [l[k + 1]] := List.take_succ_eq_append_getElem (by omega)
    rw [ht] at hs
    cases h0 : sc0 (l.take (k + 1)) with
    | none => rw [sc0_append_none _ h0] at hs; cases hs
    | some v =>
      obtain ⟨p0, q0, r0⟩ := v
      have h1 := ih (by omega) p0 q0 r0 h0
      have h2 := (one_nz (a := l.take (k + 1)) (take_ne (by omega)) h ⟨l.drop (k + 1), (List.take_append_drop _ _).symm⟩ h0).2
      have h3 := (sc0_inv h0).1
      rw [sc0_append h0] at hs
      simp only [scG] at hs
      split at hs
      · simp only [Option.some.injEq, Prod.mk.injEq] at hs
        have h4 := hs.1
        unfold stL at h4
        rw [if_pos (by omega)] at h4
        omega
      · cases hs
theorem beg_false : ∀ (n : Nat) (l : List UInt8), l ≠ [] → sc0 l = none → begL n l = false := by
  have hz : ∀ l : List UInt8, l ≠ [] → sc0 l = none → decide ((oneL l).2 = l.length) = false := by
    intro l hl hs
    rw [decide_eq_false_iff_not]
    intro h
    have hpos : 0 < l.length := List.length_pos_iff.mpr hl
    obtain ⟨_, _, q, r, h3⟩ := one_scan (l := l) (by omega)
    rw [h, Int.toNat_natCast, List.take_length, hs] at h3
    cases h3
  intro n
  induction n with
  | zero => intro l hl hs; simp only [begL]; exact hz l hl hs
  | succ n ih =>
    intro l hl hs
    simp only [begL]
    rw [hz l hl hs, Bool.false_or]
    have : ((List.range 64).any fun i => begL n (l ++ [UInt8.ofNat (128 + i)])) = false := by
      rw [List.any_eq_false]
      intro i _
      rw [ih _ (by simp) (sc0_append_none _ hs)]
      decide
    rw [this, Bool.and_false]
theorem beg_true : ∀ (n : Nat) (l : List UInt8), l ≠ [] → l.length + n = 4 → (oneL l).2 = 0 → ∀ p q r, sc0 l = some (p, q, r) → begL n l = true := by
  intro n
  induction n with
  | zero =>
    intro l hl hn h p q r hs
    have h1 := one_len h 3 (by omega) p q r (by rw [List.take_of_length_le (by omega)]; exact hs)
    have h2 := (one_nz hl h ⟨[], (List.append_nil _).symm⟩ hs).2
    have h3 := (sc0_inv hs).1
    omega
  | succ n ih =>
    intro l hl hn h p q r hs
    have h2 := (one_nz hl h ⟨[], (List.append_nil _).symm⟩ hs).2
    have h3 := sc0_inv hs
    have hp : 0 < p := by omega
    have h4 := h3.2 hp
    simp only [begL]
    rw [Bool.or_eq_true]
    right
    rw [Bool.and_eq_true]
    constructor
    · rw [decide_eq_true_iff]
      cases l with
      | nil => exact absurd rfl hl
      | cons c t =>
        show 192 ≤ c.toNat
        have hc1 : sc0 [c] ≠ none := by
          intro e
          have := sc0_append_none t e
          rw [List.singleton_append, hs] at this
          cases this
        cases hc : sc0 [c] with
        | none => exact absurd hc hc1
        | some v =>
          obtain ⟨p0, q0, r0⟩ := v
          have h5 := (one_nz (a := [c]) (by simp) h ⟨t, rfl⟩ hc).2
          simp only [sc0, scG] at hc
          split at hc
          · rename_i hk
            simp only [Option.some.injEq, Prod.mk.injEq] at hc
            have h6 := hc.1
            unfold stOk at hk
            rw [if_neg (by omega), decide_eq_true_iff] at hk
            unfold stL at h6
            rw [if_neg (by omega)] at h6
            split at h6
            · omega
            · omega
          · cases hc
    · rw [List.any_eq_true]
      refine ⟨(q - 128).toNat, by rw [List.mem_range]; omega, ?_⟩
      have hd : (UInt8.ofNat (128 + (q - 128).toNat)).toNat = 128 + (q - 128).toNat := UInt8.toNat_ofNat_of_lt' (show _ < 256 by omega)
      have hdi : ((UInt8.ofNat (128 + (q - 128).toNat)).toNat : Int) = q := by rw [hd]; omega
      generalize UInt8.ofNat (128 + (q - 128).toNat) = d at *
      have hs2 : sc0 (l ++ [d]) = some (stL p q, stLo p q, stHi p q) := by
        rw [sc0_append hs]
        simp only [scG, hdi]
        rw [if_pos (by unfold stOk; rw [if_pos hp, decide_eq_true_iff]; omega)]
      by_cases hz : (oneL (l ++ [d])).2 = 0
      · exact ih (l ++ [d]) (by simp) (by rw [List.length_append, List.length_singleton]; omega) hz _ _ _ hs2
      · have hle := oneL_le (l ++ [d])
        have hlen : (l ++ [d]).length = l.length + 1 := by simp
        have hk : (oneL (l ++ [d])).2 = (l ++ [d]).length := by
          by_cases he : (oneL (l ++ [d])).2 = (l ++ [d]).length
          · exact he
          · exfalso
            have hc := oneL_cut (l ++ [d]) hz
            rw [List.take_append_of_le_length (by omega)] at hc
            have h6 := oneL_app (l.take (oneL (l ++ [d])).2.toNat) (l.drop (oneL (l ++ [d])).2.toNat) (by rw [hc]; exact hz)
            rw [List.take_append_drop, hc, ] at h6
            rw [h6] at h
            exact hz h
        cases n with
        | zero => simp only [begL]; rw [decide_eq_true_iff]; exact hk
        | succ n => simp only [begL]; rw [Bool.or_eq_true]; left; rw [decide_eq_true_iff]; exact hk
theorem badKF_scan {l : List UInt8} (h : (oneL l).2 = 0) : ∀ (f j : Nat), j + f ≤ l.length → j + f ≤ 4 → sc0 (l.take j) ≠ none →
    (∃ i, badKF f j l = some i ∧ i < j + f ∧ sc0 (l.take i) ≠ none ∧ sc0 (l.take (i + 1)) = none) ∨ (badKF f j l = none ∧ sc0 (l.take (j + f)) ≠ none) := by
  intro f
  induction f with
  | zero => intro j _ _ hs; exact .inr ⟨rfl, hs⟩
  | succ f ih =>
    intro j hl h4 hs
    have hne : l.take (j + 1) ≠ [] := take_ne (by omega)
    have hlen : (l.take (j + 1)).length = j + 1 := by rw [List.length_take]; omega
    simp only [badKF]
    cases hc : sc0 (l.take (j + 1)) with
    | none =>
      rw [if_pos (beg_false _ _ hne hc)]
      exact .inl ⟨j, rfl, by omega, hs, hc⟩
    | some v =>
      obtain ⟨p, q, r⟩ := v
      have h0 := (one_nz hne h ⟨l.drop (j + 1), (List.take_append_drop _ _).symm⟩ hc).1
      rw [if_neg (by rw [beg_true (3 - j) _ hne (by omega) h0 p q r hc]; decide)]
      have := ih (j + 1) (by omega) (by omega) (by rw [hc]; simp)
      rwa [show j + 1 + f = j + (f + 1) by omega] at this
theorem badF_scan : ∀ (k : Nat) (l : List UInt8) (a : Nat), l.length < k →
    (badF k l a = -1 ∧ ∃ q r, sc0 l = some (0, q, r)) ∨
    ∃ i : Nat, badF k l a = ((a + i : Nat) : Int) ∧ i ≤ l.length ∧ ∃ p q r, sc0 (l.take i) = some (p, q, r) ∧ ((i = l.length ∧ p ≠ 0) ∨ ∃ h : i < l.length, stOk p q r ((l[i]).toNat : Int) = false) := by
  intro k
  induction k with
  | zero => intro l a h; omega
  | succ k ih =>
    intro l a h
    unfold badF
    by_cases hl : l.length = 0
    · rw [if_pos hl]
      have : l = [] := List.eq_nil_of_length_eq_zero hl
      subst this
      exact .inl ⟨rfl, 128, 191, rfl⟩
    · rw [if_neg hl]
      by_cases h1 : 0 < (oneL l).2
      · rw [if_pos h1]
        obtain ⟨ho1, ho2, q, r, ho3⟩ := one_scan (l := l) (by omega)
        generalize hn : (oneL l).2.toNat = n at *
        have hn1 : 1 ≤ n := by omega
        have hn2 : n ≤ l.length := by omega
        rcases ih (l.drop n) (a + n) (by rw [List.length_drop]; omega) with ⟨e, q2, r2, h5⟩ | ⟨i, e, hi, p, q2, r2, h5, h6⟩
        · left
          refine ⟨e, ?_⟩
          obtain ⟨q3, r3, h7, _⟩ := sc_zero _ q r 0 q2 r2 h5
          refine ⟨q3, r3, ?_⟩
          rw [← List.take_append_drop n l, sc0_append ho3]
          exact h7
        · right
          have hdl : (l.drop n).length = l.length - n := List.length_drop
          rw [hdl] at hi
          refine ⟨n + i, by rw [e]; congr 1; omega, by omega, ?_⟩
          obtain ⟨q3, r3, h7, h8⟩ := sc_zero _ q r p q2 r2 h5
          refine ⟨p, q3, r3, ?_, ?_⟩
          · rw [List.take_add, sc0_append ho3]
            exact h7
          · rcases h6 with ⟨h6, h9⟩ | ⟨h6, h9⟩
            · exact .inl ⟨by omega, h9⟩
            · refine .inr ⟨by omega, ?_⟩
              rw [h8]
              rw [List.getElem_drop] at h9
              exact h9
      · rw [if_neg h1]
        have h0 : (oneL l).2 = 0 := by have := oneL_le l; omega
        right
        have hm : min 4 l.length ≤ l.length := Nat.min_le_right _ _
        have hm4 : min 4 l.length ≤ 4 := Nat.min_le_left _ _
        rcases badKF_scan h0 (min 4 l.length) 0 (by omega) (by omega) (by simp [sc0, scG]) with ⟨i, e, hi, h5, h6⟩ | ⟨e, h5⟩
        · refine ⟨i, by unfold badK; rw [e]; simp, by omega, ?_⟩
          cases hc : sc0 (l.take i) with
          | none => exact absurd hc h5
          | some v =>
            obtain ⟨p, q, r⟩ := v
            refine ⟨p, q, r, rfl, .inr ⟨by omega, ?_⟩⟩
            rw [List.take_succ_eq_append_getElem (by omega), sc0_append hc] at h6
            simp only [scG] at h6
            split at h6
            · cases h6
            · rename_i hk; simpa using hk
        · refine ⟨l.length, by unfold badK; rw [e]; simp, Nat.le_refl _, ?_⟩
          rw [Nat.zero_add] at h5
          by_cases h4 : 4 ≤ l.length
          · exfalso
            rw [Nat.min_eq_left h4] at h5
            cases hc : sc0 (l.take 4) with
            | none => exact absurd hc h5
            | some v =>
              obtain ⟨p, q, r⟩ := v
              have h7 := one_len h0 3 (by omega) p q r hc
              have h8 := (one_nz (a := l.take 4) (take_ne (k := 3) (by omega)) h0 ⟨l.drop 4, (List.take_append_drop _ _).symm⟩ hc).2
              have := (sc0_inv hc).1
              omega
          · rw [Nat.min_eq_right (by omega)] at h5
            cases hc : sc0 (l.take l.length) with
            | none => exact absurd hc h5
            | some v =>
              obtain ⟨p, q, r⟩ := v
              refine ⟨p, q, r, rfl, .inl ⟨rfl, ?_⟩⟩
              refine (one_nz (a := l.take l.length) ?_ h0 ⟨[], by simp⟩ hc).2
              rw [List.take_length]
              intro e
              subst e
              exact hl rfl
/-- A text's Bad, and how a Scan goes through what stands ahead of it. -/
theorem badN_scan (S : List UInt8) :
    (badN S = -1 ∧ ∃ q r, sc0 S = some (0, q, r)) ∨
    ∃ i : Nat, badN S = (i : Int) ∧ i ≤ S.length ∧ ∃ p q r, sc0 (S.take i) = some (p, q, r) ∧ ((i = S.length ∧ p ≠ 0) ∨ ∃ h : i < S.length, stOk p q r ((S[i]).toNat : Int) = false) := by
  have := badF_scan (S.length + 1) S 0 (Nat.lt_succ_self _)
  simp only [Nat.zero_add] at this
  exact this
end Go.Proofs.YtfciacigamjfkabGreat
