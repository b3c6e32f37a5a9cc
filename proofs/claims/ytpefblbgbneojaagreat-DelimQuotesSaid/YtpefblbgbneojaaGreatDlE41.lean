/-
  delim: a cell's contents, plain and quoted. No program is read here.
-/
import Derived.Test.YtpefblbgbneojaaGreatDlE33
namespace Go.Proofs.YtpefblbgbneojaaGreat
set_option maxRecDepth 100000
set_option linter.unusedSimpArgs false
set_option linter.unusedVariables false
set_option linter.unusedSectionVars false
variable [Tab] [Fo]

/-- A Scan's run. -/
def scG (l lo hi : Int) : List UInt8 → Option (Int × Int × Int)
  | [] => some (l, lo, hi)
  | b :: t => if stOk l lo hi (b.toNat : Int) = true then scG (stL l (b.toNat : Int)) (stLo l (b.toNat : Int)) (stHi l (b.toNat : Int)) t else none
theorem sc_lo : ∀ (t : List UInt8) (l lo hi : Int), 0 ≤ l → (0 < l → 128 ≤ lo) → ∀ p q r, scG l lo hi t = some (p, q, r) → 0 ≤ p ∧ (0 < p → 128 ≤ q)
  | [], l, lo, hi, h0, h1, p, q, r, h => by
    simp only [scG, Option.some.injEq, Prod.mk.injEq] at h
    obtain ⟨rfl, rfl, rfl⟩ := h
    exact ⟨h0, h1⟩
  | b :: t, l, lo, hi, h0, h1, p, q, r, h => by
    simp only [scG] at h
    split at h
    · refine sc_lo t _ _ _ ?_ ?_ p q r h
      · unfold stL; repeat' split
        all_goals omega
      · intro _; unfold stLo; repeat' split
        all_goals omega
    · cases h
theorem sc_runes : ∀ (t : List UInt8) (s : Rn), (runesGo s t).isSome = match scG s.l s.lo s.hi t with | some (p, _, _) => decide (p = 0) | none => false
  | [], s => by
    simp only [runesGo, scG]
    split <;> simp_all
  | b :: t, s => by
    simp only [runesGo, scG, rnStep]
    by_cases hk : stOk s.l s.lo s.hi (b.toNat : Int) = true
    · simp only [hk, if_true]
      by_cases hz : stL s.l (b.toNat : Int) = 0
      · simp only [hz, if_true]
        have := sc_runes t ⟨stL s.l (b.toNat : Int), stLo s.l (b.toNat : Int), stHi s.l (b.toNat : Int), 0, s.out ++ [s.num * 64 + payI (b.toNat : Int)]⟩
        simp only [hz] at this
        exact this
      · simp only [hz, if_false]
        exact sc_runes t ⟨stL s.l (b.toNat : Int), stLo s.l (b.toNat : Int), stHi s.l (b.toNat : Int), s.num * 64 + payI (b.toNat : Int), s.out⟩
    · simp only [hk]
      rfl
theorem sc_valid (t : List UInt8) : (runesL t).isSome = match scG 0 128 191 t with | some (p, _, _) => decide (p = 0) | none => false := sc_runes t (rn0 [])
/-- An ASCII byte, behind whole characters or within one. -/
theorem ok_ascii {l lo hi b : Int} (hb : b < 128) (h0 : 0 ≤ b) (hl : 0 ≤ l) (h1 : 0 < l → 128 ≤ lo) : stOk l lo hi b = decide (l = 0) := by
  unfold stOk
  split
  · rename_i h
    have := h1 h
    rw [decide_eq_false (by omega), decide_eq_false (by omega)]
  · rw [decide_eq_true (.inl hb), decide_eq_true (by omega)]
theorem st_ascii {b : Int} (hb : b < 128) : stL 0 b = 0 ∧ stLo 0 b = 128 ∧ stHi 0 b = 191 := by
  unfold stL stLo stHi
  refine ⟨by rw [if_neg (by omega), if_pos hb], by rw [if_neg (by omega), if_neg (by omega), if_neg (by omega)], by rw [if_neg (by omega), if_neg (by omega), if_neg (by omega)]⟩
/-- A byte, of a Stream without an error. -/
theorem feed_ok {x : Ss dlP} (he : x.e = 0) {c : UInt8} (hk : stOk x.sl x.slo x.shi (c.toNat : Int) = true) (s : Ds) (h : stepD x.b c = ⟨s, 0⟩) : feed1 x c = ⟨s, stL x.sl (c.toNat : Int), stLo x.sl (c.toNat : Int), stHi x.sl (c.toNat : Int), 0, x.rd + 1⟩ := by
  unfold feed1
  rw [if_neg (by rw [he]; decide), if_pos hk]
  have h1 : dlP.stp x.b c = s := by show (stepD x.b c).b = s; rw [h]
  have h2 : dlP.ste x.b c = 0 := by show (stepD x.b c).e = 0; rw [h]
  rw [h1, h2, if_pos rfl]
theorem feed_bad {x : Ss dlP} (he : x.e = 0) {c : UInt8} (hk : stOk x.sl x.slo x.shi (c.toNat : Int) = false) : (feed1 x c).e = 3 := by
  unfold feed1
  rw [if_neg (by rw [he]; decide), if_neg (by rw [hk]; decide)]
def addC (s : Ds) (l : List UInt8) : Ds := { s with m := { s.m with c := s.m.c ++ l } }
theorem feedG_append' (x : Ss dlP) (a b : List UInt8) : feedG x (a ++ b) = feedG (feedG x a) b := by unfold feedG; rw [List.foldl_append]
theorem addC_nil (s : Ds) : addC s [] = s := by unfold addC; rw [List.append_nil]
theorem addC_cons (s : Ds) (b : UInt8) (l : List UInt8) : addC (addC s [b]) l = addC s (b :: l) := by unfold addC; simp
theorem addD_ok {s : Ds} (b : UInt8) (h : s.m.c.length < 48) : addD s b = ⟨addC s [b], 0⟩ := by unfold addD; rw [if_neg (by omega)]; rfl
theorem step_plain3 {s : Ds} {b : UInt8} (ha : s.m.a = 3) (hb : 32 ≤ b.toNat ∧ b.toNat ≠ 34 ∧ b.toNat ≠ 44) (h : s.m.c.length < 48) : stepD s b = ⟨addC s [b], 0⟩ := by
  unfold stepD
  rw [if_neg (by omega), if_neg (by omega), if_neg (by omega), if_neg (by omega)]
  unfold outD
  rw [if_neg (by omega), if_neg (by omega), if_neg (by omega)]
  exact addD_ok b h
theorem step_quoted {s : Ds} {b : UInt8} (ha : s.m.a = 4) (hb : b.toNat ≠ 34) (h : s.m.c.length < 48) : stepD s b = ⟨addC s [b], 0⟩ := by
  unfold stepD
  rw [if_neg (by omega), if_neg (by omega), if_pos ha, if_neg hb]
  exact addD_ok b h
/-- Bytes that a cell takes. -/
theorem cell_run : ∀ (l : List UInt8) (x : Ss dlP), x.e = 0 → (∀ b ∈ l, ∀ s : Ds, s.m.a = x.b.m.a → s.m.c.length < 48 → stepD s b = ⟨addC s [b], 0⟩) → x.b.m.c.length + l.length ≤ 48 →
    (∀ p q r, scG x.sl x.slo x.shi l = some (p, q, r) → feedG x l = ⟨addC x.b l, p, q, r, 0, x.rd + l.length⟩) ∧ (scG x.sl x.slo x.shi l = none → (feedG x l).e = 3)
  | [], x, he, _, _ => by
    refine ⟨fun p q r h => ?_, fun h => by cases h⟩
    simp only [scG, Option.some.injEq, Prod.mk.injEq] at h
    obtain ⟨h1, h2, h3⟩ := h
    obtain ⟨b, sl, slo, shi, e, rd⟩ := x
    simp only at he h1 h2 h3
    subst he h1 h2 h3
    show (⟨b, sl, slo, shi, 0, rd⟩ : Ss dlP) = _
    rw [addC_nil]
    rfl
  | c :: l, x, he, hs, hl => by
    rw [List.length_cons] at hl
    have h1 := hs c (List.mem_cons_self ..) x.b rfl (by omega)
    rw [feedG_cons]
    simp only [scG]
    cases hk : stOk x.sl x.slo x.shi (c.toNat : Int) with
    | true =>
      rw [if_pos rfl, feed_ok he hk _ h1]
      have ih := cell_run l ⟨addC x.b [c], stL x.sl (c.toNat : Int), stLo x.sl (c.toNat : Int), stHi x.sl (c.toNat : Int), 0, x.rd + 1⟩ rfl (fun b hb s ha hlen => hs b (List.mem_cons_of_mem _ hb) s ha hlen) (by show (x.b.m.c ++ [c]).length + l.length ≤ 48; rw [List.length_append, List.length_singleton]; omega)
      refine ⟨fun p q r h => ?_, ih.2⟩
      rw [ih.1 p q r h]
      show (⟨addC (addC x.b [c]) l, p, q, r, 0, x.rd + 1 + l.length⟩ : Ss dlP) = _
      rw [addC_cons, List.length_cons, show x.rd + 1 + l.length = x.rd + (l.length + 1) by omega]
    | false =>
      rw [if_neg (by decide)]
      refine ⟨(fun p q r h => by cases h), fun _ => ?_⟩
      have h3 := feed_bad he hk
      rw [feedG_stop (by rw [h3]; decide), h3]
end Go.Proofs.YtpefblbgbneojaaGreat
