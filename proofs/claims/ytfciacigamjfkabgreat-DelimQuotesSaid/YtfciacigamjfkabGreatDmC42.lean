/-
  delim: a cell's contents, plain and quoted. No program is read here.
  delim: a table of one column and two rows, its first cell plain or quoted. No program is read here.
-/
import Derived.Test.YtfciacigamjfkabGreatDmC31
import Derived.KernelRfl
namespace Go.Proofs.YtfciacigamjfkabGreat
set_option maxRecDepth 100000
set_option linter.unusedSimpArgs false
set_option linter.unusedVariables false
set_option linter.unusedSectionVars false
variable [Tab] [Fo]

/-- A Scan's run. -/
def scG (l lo hi : Int) : List UInt8 → Option (Int × Int × Int)
  | [] => some (l, lo, hi)
  | b :: t => if stOk l lo hi (b.toNat : Int) = true then scG (stL l (b.toNat : Int)) (stLo l (b.toNat : Int)) (stHi l (b.toNat : Int)) t else none
theorem sc_lo : ∀ (t : List UInt8) (l lo hi : Int), 0 ≤ l → (0 < l → 128 ≤ lo) → ∀ p q r, scG l lo hi t = some (p, q, r) → 0 ≤ p ∧ (0 < p → 128 ≤ q)
  | [], l, lo, hi, h0, h1, p, q, r, h => by
    simp only [scG, Option.some.injEq, Prod.mk.injEq] at h
    obtain ⟨rfl, rfl, rfl⟩ := h
    exact ⟨h0, h1⟩
  | b :: t, l, lo, hi, h0, h1, p, q, r, h => by
    simp only [scG] at h
    split at h
    · refine sc_lo t _ _ _ ?_ ?_ p q r h
      · unfold stL; repeat' split
        all_goals omega
      · intro _; unfold stLo; repeat' split
        all_goals omega
    · cases h
theorem sc_runes : ∀ (t : List UInt8) (s : Rn), (runesGo s t).isSome = match scG s.l s.lo s.hi t with | some (p, _, _) => decide (p = 0) | none => false
  | [], s => by
    simp only [runesGo, scG]
    split <;> simp_all
  | b :: t, s => by
    simp only [runesGo, scG, rnStep]
    by_cases hk : stOk s.l s.lo s.hi (b.toNat : Int) = true
    · simp only [hk, if_true]
      by_cases hz : stL s.l (b.toNat : Int) = 0
      · simp only [hz, if_true]
        have := sc_runes t ⟨stL s.l (b.toNat : Int), stLo s.l (b.toNat : Int), stHi s.l (b.toNat : Int), 0, s.out ++ [s.num * 64 + payI (b.toNat : Int)]⟩
        simp only [hz] at this
        exact this
      · simp only [hz, if_false]
        exact sc_runes t ⟨stL s.l (b.toNat : Int), stLo s.l (b.toNat : Int), stHi s.l (b.toNat : Int), s.num * 64 + payI (b.toNat : Int), s.out⟩
    · simp only [hk]
      rfl
theorem sc_valid (t : List UInt8) : (runesL t).isSome = match scG 0 128 191 t with | some (p, _, _) => decide (p = 0) | none => false := sc_runes t (rn0 [])
/-- An ASCII byte, behind whole characters or within one. -/
theorem ok_ascii {l lo hi b : Int} (hb : b < 128) (h0 : 0 ≤ b) (hl : 0 ≤ l) (h1 : 0 < l → 128 ≤ lo) : stOk l lo hi b = decide (l = 0) := by
  unfold stOk
  split
  · rename_i h
    have := h1 h
    rw [decide_eq_false (by omega), decide_eq_false (by omega)]
  · rw [decide_eq_true (.inl hb), decide_eq_true (by omega)]
theorem st_ascii {b : Int} (hb : b < 128) : stL 0 b = 0 ∧ stLo 0 b = 128 ∧ stHi 0 b = 191 := by
  unfold stL stLo stHi
  refine ⟨by rw [if_neg (by omega), if_pos hb], by rw [if_neg (by omega), if_neg (by omega), if_neg (by omega)], by rw [if_neg (by omega), if_neg (by omega), if_neg (by omega)]⟩
/-- A byte, of a Stream without an error. -/
theorem feed_ok {x : Ss dlP} (he : x.e = 0) {c : UInt8} (hk : stOk x.sl x.slo x.shi (c.toNat : Int) = true) (s : Ds) (h : stepD x.b c = ⟨s, 0⟩) : feed1 x c = ⟨s, stL x.sl (c.toNat : Int), stLo x.sl (c.toNat : Int), stHi x.sl (c.toNat : Int), 0, x.rd + 1⟩ := by
  unfold feed1
  rw [if_neg (by rw [he]; decide), if_pos hk]
  have h1 : dlP.stp x.b c = s := by show (stepD x.b c).b = s; rw [h]
  have h2 : dlP.ste x.b c = 0 := by show (stepD x.b c).e = 0; rw [h]
  rw [h1, h2, if_pos rfl]
theorem feed_bad {x : Ss dlP} (he : x.e = 0) {c : UInt8} (hk : stOk x.sl x.slo x.shi (c.toNat : Int) = false) : (feed1 x c).e = 3 := by
  unfold feed1
  rw [if_neg (by rw [he]; decide), if_neg (by rw [hk]; decide)]
def addC (s : Ds) (l : List UInt8) : Ds := { s with m := { s.m with c := s.m.c ++ l } }
theorem feedG_append' (x : Ss dlP) (a b : List UInt8) : feedG x (a ++ b) = feedG (feedG x a) b := by unfold feedG; rw [List.foldl_append]
theorem addC_nil (s : Ds) : addC s [] = s := by unfold addC; rw [List.append_nil]
theorem addC_cons (s : Ds) (b : UInt8) (l : List UInt8) : addC (addC s [b]) l = addC s (b :: l) := by unfold addC; simp
theorem addD_ok {s : Ds} (b : UInt8) (h : s.m.c.length < 48) : addD s b = ⟨addC s [b], 0⟩ := by unfold addD; rw [if_neg (by omega)]; rfl
theorem step_plain3 {s : Ds} {b : UInt8} (ha : s.m.a = 3) (hb : 32 ≤ b.toNat ∧ b.toNat ≠ 34 ∧ b.toNat ≠ 44) (h : s.m.c.length < 48) : stepD s b = ⟨addC s [b], 0⟩ := by
  unfold stepD
  rw [if_neg (by omega), if_neg (by omega), if_neg (by omega), if_neg (by omega)]
  unfold outD
  rw [if_neg (by omega), if_neg (by omega), if_neg (by omega)]
  exact addD_ok b h
theorem step_quoted {s : Ds} {b : UInt8} (ha : s.m.a = 4) (hb : b.toNat ≠ 34) (h : s.m.c.length < 48) : stepD s b = ⟨addC s [b], 0⟩ := by
  unfold stepD
  rw [if_neg (by omega), if_neg (by omega), if_pos ha, if_neg hb]
  exact addD_ok b h
/-- Bytes that a cell takes. -/
theorem cell_run : ∀ (l : List UInt8) (x : Ss dlP), x.e = 0 → (∀ b ∈ l, ∀ s : Ds, s.m.a = x.b.m.a → s.m.c.length < 48 → stepD s b = ⟨addC s [b], 0⟩) → x.b.m.c.length + l.length ≤ 48 →
    (∀ p q r, scG x.sl x.slo x.shi l = some (p, q, r) → feedG x l = ⟨addC x.b l, p, q, r, 0, x.rd + l.length⟩) ∧ (scG x.sl x.slo x.shi l = none → (feedG x l).e = 3)
  | [], x, he, _, _ => by
    refine ⟨fun p q r h => ?_, fun h => by cases h⟩
    simp only [scG, Option.some.injEq, Prod.mk.injEq] at h
    obtain ⟨h1, h2, h3⟩ := h
    obtain ⟨b, sl, slo, shi, e, rd⟩ := x
    simp only at he h1 h2 h3
    subst he h1 h2 h3
    show (⟨b, sl, slo, shi, 0, rd⟩ : Ss dlP) = _
    rw [addC_nil]
    rfl
  | c :: l, x, he, hs, hl => by
    rw [List.length_cons] at hl
    have h1 := hs c (List.mem_cons_self ..) x.b rfl (by omega)
    rw [feedG_cons]
    simp only [scG]
    cases hk : stOk x.sl x.slo x.shi (c.toNat : Int) with
    | true =>
      rw [if_pos rfl, feed_ok he hk _ h1]
      have ih := cell_run l ⟨addC x.b [c], stL x.sl (c.toNat : Int), stLo x.sl (c.toNat : Int), stHi x.sl (c.toNat : Int), 0, x.rd + 1⟩ rfl (fun b hb s ha hlen => hs b (List.mem_cons_of_mem _ hb) s ha hlen) (by show (x.b.m.c ++ [c]).length + l.length ≤ 48; rw [List.length_append, List.length_singleton]; omega)
      refine ⟨fun p q r h => ?_, ih.2⟩
      rw [ih.1 p q r h]
      show (⟨addC (addC x.b [c]) l, p, q, r, 0, x.rd + 1 + l.length⟩ : Ss dlP) = _
      rw [addC_cons, List.length_cons, show x.rd + 1 + l.length = x.rd + (l.length + 1) by omega]
    | false =>
      rw [if_neg (by decide)]
      refine ⟨(fun p q r h => by cases h), fun _ => ?_⟩
      have h3 := feed_bad he hk
      rw [feedG_stop (by rw [h3]; decide), h3]
end Go.Proofs.YtfciacigamjfkabGreat
namespace Go.Proofs.YtfciacigamjfkabGreat
set_option maxRecDepth 100000
set_option linter.unusedSimpArgs false
set_option linter.unusedVariables false
set_option linter.unusedSectionVars false
variable [Tab] [Fo]

def tPlain (own : List UInt8) : List UInt8 := [97, 10] ++ (own ++ [10, 120, 10])
def tQuoted (own : List UInt8) : List UInt8 := [97, 10] ++ (34 :: (own ++ [34, 10, 120, 10]))
def stI (k : Int) : List Pt := [⟨5, k, []⟩, ⟨0, 5, []⟩]
def mI (a : Int) (c : List UInt8) : Dm := ⟨a, [[97]], true, 0, c⟩
def S1 : Ds := ⟨mI 1 [], stI 0, [bare 5]⟩
theorem head_run : feedG (ss0 dlP) [97, 10] = ⟨S1, 0, 128, 191, 0, 2⟩ := by kernel_rfl
def keyA : Ev := ⟨8, ⟨#[97]⟩, ⟨#[]⟩⟩
def txt (t : List UInt8) : Ev := ⟨4, ⟨t.toArray⟩, ⟨#[]⟩⟩
def rowL (t : List UInt8) : List Ev := [bare 7, keyA, txt t, bare 9]
theorem tellD_ok {m : Dm} {st : List Pt} {l : List Ev} {x : Ev} {st' : List Pt} (h : stepE st x = 0) (hg : goS st x = st') : tellD m st l x = ⟨⟨m, st', l ++ [x]⟩, 0⟩ := by
  unfold tellD stepS tellL
  rw [if_pos h, if_pos h, h, hg]
/-- A row of one cell. -/
theorem row_one (a k : Int) (hk : k = 0 ∨ k = 7) (c : List UInt8) (l : List Ev) (hv : validL c = true) : endCellD ⟨mI a c, stI k, l⟩ true = ⟨⟨mI a [], stI 7, l ++ rowL c⟩, 0⟩ := by
  have e1 : stepE (stI k) (bare 7) = 0 := by rcases hk with rfl | rfl <;> kernel_rfl
  have g1 : goS (stI k) (bare 7) = ⟨7, 0, []⟩ :: stI 7 := by rcases hk with rfl | rfl <;> rfl
  have e2 : stepE (⟨7, 0, []⟩ :: stI 7) keyA = 0 := by kernel_rfl
  have g2 : goS (⟨7, 0, []⟩ :: stI 7) keyA = ⟨7, 8, [[97]]⟩ :: stI 7 := by rfl
  have e3 : stepE (⟨7, 8, [[97]]⟩ :: stI 7) (txt c) = 0 := by
    have hf : formedB (txt c) = true := by
      have : formedB (txt c) = (emptyT ⟨#[]⟩ && validL c) := rfl
      rw [this, hv]; rfl
    have hc : contB 7 8 4 (emptyT (txt c).t) = true := rfl
    show (if formedB (txt c) = false ∨ contB 7 8 4 (emptyT (txt c).t) = false then (19 : Int) else if endsK 4 = true then 0 else if opensK 4 = true then (if 6 ≤ (stI 7).length then 5 else 0) else if (4 : Int) = 8 ∨ (4 : Int) = 11 then (if (txt c).t.data.toList ∈ [[97]] then 6 else if 10 ≤ ([[97]] : List (List UInt8)).length then 7 else 0) else 0) = 0
    rw [if_neg (by rw [hf, hc]; rintro (h | h) <;> cases h), if_neg (by decide), if_neg (by decide), if_neg (by decide)]
  have g3 : goS (⟨7, 8, [[97]]⟩ :: stI 7) (txt c) = ⟨7, 4, [[97]]⟩ :: stI 7 := by rfl
  have e4 : stepE (⟨7, 4, [[97]]⟩ :: stI 7) (bare 9) = 0 := by kernel_rfl
  have g4 : goS (⟨7, 4, [[97]]⟩ :: stI 7) (bare 9) = stI 7 := by rfl
  have r1 : rowD ⟨mI a [], stI k, l⟩ = ⟨⟨mI a [], ⟨7, 0, []⟩ :: stI 7, l ++ [bare 7]⟩, 0⟩ := by
    unfold rowD
    rw [if_pos (show (⟨mI a [], stI k, l⟩ : Ds).m.n = 0 from rfl)]
    exact tellD_ok e1 g1
  have r2 : keyD ⟨mI a [], ⟨7, 0, []⟩ :: stI 7, l ++ [bare 7]⟩ = ⟨⟨mI a [], ⟨7, 8, [[97]]⟩ :: stI 7, (l ++ [bare 7]) ++ [keyA]⟩, 0⟩ := tellD_ok (x := keyA) e2 g2
  have r3 : textD ⟨mI a [], ⟨7, 8, [[97]]⟩ :: stI 7, (l ++ [bare 7]) ++ [keyA]⟩ c = ⟨⟨⟨a, [[97]], true, 1, []⟩, ⟨7, 4, [[97]]⟩ :: stI 7, ((l ++ [bare 7]) ++ [keyA]) ++ [txt c]⟩, 0⟩ := tellD_ok (x := txt c) e3 g3
  have rt : tellCellD ⟨mI a [], stI k, l⟩ c = ⟨⟨⟨a, [[97]], true, 1, []⟩, ⟨7, 4, [[97]]⟩ :: stI 7, ((l ++ [bare 7]) ++ [keyA]) ++ [txt c]⟩, 0⟩ := by
    unfold tellCellD
    rw [r1, if_neg (fun h => h rfl), r2, if_neg (fun h => h rfl), r3]
  unfold endCellD
  rw [if_neg (by show ¬ true = false; decide)]
  rw [show emptyD ⟨mI a c, stI k, l⟩ = ⟨mI a [], stI k, l⟩ from rfl, show (⟨mI a c, stI k, l⟩ : Ds).m.c = c from rfl, rt, if_neg (fun h => h rfl)]
  unfold countD
  rw [if_neg (fun h => h rfl), if_neg (fun h => by cases h), tellD_ok e4 g4]
  simp [rowL, mI]
/-- What follows the first row, and the end. -/
def dR (own : List UInt8) : List Ev := ([bare 5] ++ rowL own ++ rowL [120]) ++ [bare 6]
theorem tail_run (own : List UInt8) (rd : Nat) : closeE (feedG (⟨⟨mI 1 [], stI 7, [bare 5] ++ rowL own⟩, 0, 128, 191, 0, rd⟩ : Ss dlP) [120, 10]) = 0 ∧ (closeBs (feedG (⟨⟨mI 1 [], stI 7, [bare 5] ++ rowL own⟩, 0, 128, 191, 0, rd⟩ : Ss dlP) [120, 10])).l = dR own := by
  generalize hl : [bare 5] ++ rowL own = l
  have f1 : feed1 (⟨⟨mI 1 [], stI 7, l⟩, 0, 128, 191, 0, rd⟩ : Ss dlP) 120 = ⟨⟨mI 3 [120], stI 7, l⟩, 0, 128, 191, 0, rd + 1⟩ := feed_ok rfl (show stOk 0 128 191 120 = true by decide) _ rfl
  have f2 : feed1 (⟨⟨mI 3 [120], stI 7, l⟩, 0, 128, 191, 0, rd + 1⟩ : Ss dlP) 10 = ⟨⟨mI 1 [], stI 7, l ++ rowL [120]⟩, 0, 128, 191, 0, rd + 1 + 1⟩ :=
    feed_ok rfl (show stOk 0 128 191 10 = true by decide) _ (row_one 1 7 (.inr rfl) [120] l (by kernel_rfl))
  have hf : feedG (⟨⟨mI 1 [], stI 7, l⟩, 0, 128, 191, 0, rd⟩ : Ss dlP) [120, 10] = ⟨⟨mI 1 [], stI 7, l ++ rowL [120]⟩, 0, 128, 191, 0, rd + 1 + 1⟩ := by
    rw [feedG_cons, f1, feedG_cons, f2]; rfl
  have hfin : finD ⟨mI 1 [], stI 7, l ++ rowL [120]⟩ = ⟨⟨mI 1 [], [⟨0, 5, []⟩], (l ++ rowL [120]) ++ [bare 6]⟩, 0⟩ := by
    unfold finD
    have he : endD ⟨mI 1 [], stI 7, l ++ rowL [120]⟩ = ⟨⟨mI 1 [], stI 7, l ++ rowL [120]⟩, 0⟩ := rfl
    rw [he, if_neg (fun h => h rfl)]
    exact tellD_ok (show stepE (stI 7) (bare 6) = 0 by kernel_rfl) rfl
  rw [hf]
  refine ⟨?_, ?_⟩
  · show (finD ⟨mI 1 [], stI 7, l ++ rowL [120]⟩).e = 0
    rw [hfin]
  · show (finD ⟨mI 1 [], stI 7, l ++ rowL [120]⟩).b.l = dR own
    rw [hfin]
    unfold dR
    rw [← hl]
theorem okA (q r : Int) : stOk 0 q r ((10 : UInt8).toNat : Int) = true := rfl
theorem okB (q r : Int) : stOk 0 q r ((34 : UInt8).toNat : Int) = true := rfl
/-- Bytes that may stand plain. -/
def mayP (b : UInt8) : Prop := 32 ≤ b.toNat ∧ b.toNat ≠ 34 ∧ b.toNat ≠ 44
theorem sc_valid48 {own : List UInt8} (hl : own.length ≤ 40) {p q r : Int} (h : scG 0 128 191 own = some (p, q, r)) : validL own = decide (p = 0) := by
  unfold validL
  rw [decide_eq_true (by omega), sc_valid, h]
  rfl
theorem plain_text {own : List UInt8} (hm : ∀ b ∈ own, mayP b) (hl : own.length ≤ 40) :
    (validL own = true → dEr (tPlain own) = 0 ∧ dEv (tPlain own) = dR own) ∧ (validL own = false → dEr (tPlain own) = 3) := by
  have hX : ∀ c : UInt8, c.toNat ≠ 34 → stepD S1 c = stepD (setA S1 3) c := fun c hc => by
    have h1 : stepD S1 c = cellD S1 c := rfl
    have h2 : stepD (setA S1 3) c = outD (setA S1 3) c := rfl
    rw [h1, h2]
    unfold cellD
    rw [if_neg hc]
  -- from the beginning of the cell, as if it were open
  have hrun : ∀ rest : List UInt8, (∀ p q r, scG 0 128 191 own = some (p, q, r) → own ≠ [] → feedG (⟨S1, 0, 128, 191, 0, 2⟩ : Ss dlP) (own ++ rest) = feedG (⟨addC (setA S1 3) own, p, q, r, 0, 2 + own.length⟩ : Ss dlP) rest) ∧ (scG 0 128 191 own = none → (feedG (⟨S1, 0, 128, 191, 0, 2⟩ : Ss dlP) (own ++ rest)).e = 3) := by
    intro rest
    cases own with
    | nil => exact ⟨(fun _ _ _ _ h => absurd rfl h), (fun h => by cases h)⟩
    | cons c l =>
      have hc := hm c (List.mem_cons_self ..)
      rw [List.cons_append, feedG_cons]
      simp only [scG]
      cases hk : stOk 0 128 191 (c.toNat : Int) with
      | false =>
        rw [if_neg (by decide)]
        refine ⟨(fun p q r h => by cases h), fun _ => ?_⟩
        have h3 := feed_bad (x := (⟨S1, 0, 128, 191, 0, 2⟩ : Ss dlP)) rfl hk
        rw [feedG_stop (by rw [h3]; decide), h3]
      | true =>
        rw [if_pos rfl]
        have h1 : stepD S1 c = ⟨addC (setA S1 3) [c], 0⟩ := (hX c hc.2.1).trans (step_plain3 rfl hc (by decide))
        rw [feed_ok (x := (⟨S1, 0, 128, 191, 0, 2⟩ : Ss dlP)) rfl hk _ h1, feedG_append']
        have hcr := cell_run l (⟨addC (setA S1 3) [c], stL 0 (c.toNat : Int), stLo 0 (c.toNat : Int), stHi 0 (c.toNat : Int), 0, 3⟩ : Ss dlP) rfl (fun b hb s ha hlen => step_plain3 ha (hm b (List.mem_cons_of_mem _ hb)) hlen) (by show 1 + l.length ≤ 48; rw [List.length_cons] at hl; omega)
        refine ⟨fun p q r h _ => ?_, fun h => ?_⟩
        · rw [hcr.1 p q r h]
          show feedG (⟨addC (addC (setA S1 3) [c]) l, p, q, r, 0, 3 + l.length⟩ : Ss dlP) rest = _
          rw [addC_cons, List.length_cons, show 3 + l.length = 2 + (l.length + 1) by omega]
        · have h3 := hcr.2 h
          rw [feedG_stop (by rw [h3]; decide), h3]
  have hsp : feedG (ss0 dlP) (tPlain own) = feedG (⟨S1, 0, 128, 191, 0, 2⟩ : Ss dlP) (own ++ [10, 120, 10]) := by
    unfold tPlain
    rw [feedG_append', head_run]
  have hbad : (feedG (⟨S1, 0, 128, 191, 0, 2⟩ : Ss dlP) (own ++ [10, 120, 10])).e = 3 → dEr (tPlain own) = 3 := fun h => by
    unfold dEr closeE
    rw [hsp, if_pos (by rw [h]; decide), h]
  cases hsc : scG 0 128 191 own with
  | none =>
    have hv : validL own = false := by unfold validL; rw [sc_valid, hsc]; simp
    exact ⟨(fun h => by rw [hv] at h; cases h), fun _ => hbad ((hrun _).2 hsc)⟩
  | some t =>
    obtain ⟨p, q, r⟩ := t
    have hlo := sc_lo own 0 128 191 (Int.le_refl _) (fun h => absurd h (by decide)) p q r hsc
    have hv := sc_valid48 hl hsc
    have hR : feedG (⟨S1, 0, 128, 191, 0, 2⟩ : Ss dlP) (own ++ [10, 120, 10]) = feedG (feed1 (⟨addC (setA S1 3) own, p, q, r, 0, 2 + own.length⟩ : Ss dlP) 10) [120, 10] := by
      by_cases h0 : own = []
      · subst h0
        simp only [scG, Option.some.injEq, Prod.mk.injEq] at hsc
        obtain ⟨rfl, rfl, rfl⟩ := hsc
        rw [List.nil_append, feedG_cons, feed_ok (x := (⟨S1, 0, 128, 191, 0, 2⟩ : Ss dlP)) (c := 10) rfl (show stOk 0 128 191 10 = true by decide) ⟨mI 1 [], stI 7, [bare 5] ++ rowL []⟩ (row_one 1 0 (.inl rfl) [] [bare 5] (by kernel_rfl)), feed_ok (x := (⟨addC (setA S1 3) [], 0, 128, 191, 0, 2 + ([] : List UInt8).length⟩ : Ss dlP)) (c := 10) rfl (show stOk 0 128 191 10 = true by decide) ⟨mI 1 [], stI 7, [bare 5] ++ rowL []⟩ (row_one 1 0 (.inl rfl) [] [bare 5] (by kernel_rfl))]
        rfl
      · rw [(hrun [10, 120, 10]).1 p q r hsc h0, feedG_cons]
    by_cases hp : p = 0
    · subst hp
      have hv' : validL own = true := by rw [hv]; rfl
      refine ⟨fun _ => ?_, (fun h => by rw [hv'] at h; cases h)⟩
      have hstep : stepD (addC (setA S1 3) own) 10 = ⟨⟨mI 1 [], stI 7, [bare 5] ++ rowL own⟩, 0⟩ := row_one 1 0 (.inl rfl) own [bare 5] hv'
      have hf := feed_ok (x := (⟨addC (setA S1 3) own, 0, q, r, 0, 2 + own.length⟩ : Ss dlP)) (c := 10) rfl (okA q r) _ hstep
      have ht := tail_run own (2 + own.length + 1)
      unfold dEr dEv
      rw [hsp, hR, hf]
      exact ht
    · have hv' : validL own = false := by rw [hv]; simpa using hp
      refine ⟨(fun h => by rw [hv'] at h; cases h), fun _ => hbad ?_⟩
      have hok : stOk p q r ((10 : UInt8).toNat : Int) = false := by
        rw [show ((10 : UInt8).toNat : Int) = 10 from rfl, ok_ascii (by decide) (by decide) hlo.1 hlo.2]
        simpa using hp
      have h3 := feed_bad (x := (⟨addC (setA S1 3) own, p, q, r, 0, 2 + own.length⟩ : Ss dlP)) rfl hok
      rw [hR, feedG_stop (by rw [h3]; decide), h3]
theorem quoted_text {own : List UInt8} (hm : ∀ b ∈ own, mayP b) (hl : own.length ≤ 40) :
    (validL own = true → dEr (tQuoted own) = 0 ∧ dEv (tQuoted own) = dR own) ∧ (validL own = false → dEr (tQuoted own) = 3) := by
  have hq : feed1 (⟨S1, 0, 128, 191, 0, 2⟩ : Ss dlP) 34 = ⟨setA S1 4, 0, 128, 191, 0, 3⟩ := feed_ok rfl (show stOk 0 128 191 34 = true by decide) _ rfl
  have hsp : feedG (ss0 dlP) (tQuoted own) = feedG (feedG (⟨setA S1 4, 0, 128, 191, 0, 3⟩ : Ss dlP) own) [34, 10, 120, 10] := by
    unfold tQuoted
    rw [feedG_append', head_run, feedG_cons, hq, feedG_append']
  have hcr := cell_run own (⟨setA S1 4, 0, 128, 191, 0, 3⟩ : Ss dlP) rfl (fun b hb s ha hlen => step_quoted ha (hm b hb).2.1 hlen) (by show 0 + own.length ≤ 48; omega)
  have hbad : (feedG (feedG (⟨setA S1 4, 0, 128, 191, 0, 3⟩ : Ss dlP) own) [34, 10, 120, 10]).e = 3 → dEr (tQuoted own) = 3 := fun h => by
    unfold dEr closeE
    rw [hsp, if_pos (by rw [h]; decide), h]
  cases hsc : scG 0 128 191 own with
  | none =>
    have hv : validL own = false := by unfold validL; rw [sc_valid, hsc]; simp
    refine ⟨(fun h => by rw [hv] at h; cases h), fun _ => hbad ?_⟩
    have h3 := hcr.2 hsc
    rw [feedG_stop (by rw [h3]; decide), h3]
  | some t =>
    obtain ⟨p, q, r⟩ := t
    have hlo := sc_lo own 0 128 191 (Int.le_refl _) (fun h => absurd h (by decide)) p q r hsc
    have hv := sc_valid48 hl hsc
    have hR := hcr.1 p q r hsc
    by_cases hp : p = 0
    · subst hp
      have hv' : validL own = true := by rw [hv]; rfl
      refine ⟨fun _ => ?_, (fun h => by rw [hv'] at h; cases h)⟩
      have s1 : stepD (addC (setA S1 4) own) 34 = ⟨setA (addC (setA S1 4) own) 5, 0⟩ := rfl
      have s2 : stepD (setA (addC (setA S1 4) own) 5) 10 = ⟨⟨mI 1 [], stI 7, [bare 5] ++ rowL own⟩, 0⟩ := row_one 1 0 (.inl rfl) own [bare 5] hv'
      have f1 := feed_ok (x := (⟨addC (setA S1 4) own, 0, q, r, 0, 3 + own.length⟩ : Ss dlP)) (c := 34) rfl (okB q r) _ s1
      have f2 := feed_ok (x := (⟨setA (addC (setA S1 4) own) 5, 0, 128, 191, 0, 3 + own.length + 1⟩ : Ss dlP)) (c := 10) rfl (show stOk 0 128 191 10 = true by decide) _ s2
      have ht := tail_run own (3 + own.length + 1 + 1)
      unfold dEr dEv
      rw [hsp, hR, feedG_cons]
      have f1' : feed1 (⟨addC (setA S1 4) own, 0, q, r, 0, 3 + own.length⟩ : Ss dlP) 34 = ⟨setA (addC (setA S1 4) own) 5, 0, 128, 191, 0, 3 + own.length + 1⟩ := f1
      rw [f1', feedG_cons, f2]
      exact ht
    · have hv' : validL own = false := by rw [hv]; simpa using hp
      refine ⟨(fun h => by rw [hv'] at h; cases h), fun _ => hbad ?_⟩
      have hok : stOk p q r ((34 : UInt8).toNat : Int) = false := by
        rw [show ((34 : UInt8).toNat : Int) = 34 from rfl, ok_ascii (by decide) (by decide) hlo.1 hlo.2]
        simpa using hp
      have h3 := feed_bad (x := (⟨addC (setA S1 4) own, p, q, r, 0, 3 + own.length⟩ : Ss dlP)) rfl hok
      rw [hR, feedG_cons, feedG_stop (by rw [h3]; decide), h3]
end Go.Proofs.YtfciacigamjfkabGreat
