/-
  delim: a table of one column and two rows, its first cell plain or quoted. No program is read here.
  The reference's Spec.
  The reference's Spec: its walk.
-/
import Derived.Test.YtfciacigamjfkabGreatDmS29
import Derived.KernelRfl
import Derived.Test.YtfciacigamjfkabGreatDmS33
namespace Go.Proofs.YtfciacigamjfkabGreat
set_option maxRecDepth 100000
set_option linter.unusedSimpArgs false
set_option linter.unusedVariables false
set_option linter.unusedSectionVars false
variable [Tab] [Fo]

def tPlain (own : List UInt8) : List UInt8 := [97, 10] ++ (own ++ [10, 120, 10])
def tQuoted (own : List UInt8) : List UInt8 := [97, 10] ++ (34 :: (own ++ [34, 10, 120, 10]))
def stI (k : Int) : List Pt := [⟨5, k, []⟩, ⟨0, 5, []⟩]
def mI (a : Int) (c : List UInt8) : Dm := ⟨a, [[97]], true, 0, c⟩
def S1 : Ds := ⟨mI 1 [], stI 0, [bare 5]⟩
theorem head_run : feedG (ss0 dlP) [97, 10] = ⟨S1, 0, 128, 191, 0, 2⟩ := by kernel_rfl
def keyA : Ev := ⟨8, ⟨#[97]⟩, ⟨#[]⟩⟩
def txt (t : List UInt8) : Ev := ⟨4, ⟨t.toArray⟩, ⟨#[]⟩⟩
def rowL (t : List UInt8) : List Ev := [bare 7, keyA, txt t, bare 9]
theorem tellD_ok {m : Dm} {st : List Pt} {l : List Ev} {x : Ev} {st' : List Pt} (h : stepE st x = 0) (hg : goS st x = st') : tellD m st l x = ⟨⟨m, st', l ++ [x]⟩, 0⟩ := by
  unfold tellD stepS tellL
  rw [if_pos h, if_pos h, h, hg]
/-- A row of one cell. -/
theorem row_one (a k : Int) (hk : k = 0 ∨ k = 7) (c : List UInt8) (l : List Ev) (hv : validL c = true) : endCellD ⟨mI a c, stI k, l⟩ true = ⟨⟨mI a [], stI 7, l ++ rowL c⟩, 0⟩ := by
  have e1 : stepE (stI k) (bare 7) = 0 := by rcases hk with rfl | rfl <;> kernel_rfl
  have g1 : goS (stI k) (bare 7) = ⟨7, 0, []⟩ :: stI 7 := by rcases hk with rfl | rfl <;> rfl
  have e2 : stepE (⟨7, 0, []⟩ :: stI 7) keyA = 0 := by kernel_rfl
  have g2 : goS (⟨7, 0, []⟩ :: stI 7) keyA = ⟨7, 8, [[97]]⟩ :: stI 7 := by rfl
  have e3 : stepE (⟨7, 8, [[97]]⟩ :: stI 7) (txt c) = 0 := by
    have hf : formedB (txt c) = true := by
      have : formedB (txt c) = (emptyT ⟨#[]⟩ && validL c) := rfl
      rw [this, hv]; rfl
    have hc : contB 7 8 4 (emptyT (txt c).t) = true := rfl
    show (if formedB (txt c) = false ∨ contB 7 8 4 (emptyT (txt c).t) = false then (19 : Int) else if endsK 4 = true then 0 else if opensK 4 = true then (if 6 ≤ (stI 7).length then 5 else 0) else if (4 : Int) = 8 ∨ (4 : Int) = 11 then (if (txt c).t.data.toList ∈ [[97]] then 6 else if 10 ≤ ([[97]] : List (List UInt8)).length then 7 else 0) else 0) = 0
    rw [if_neg (by rw [hf, hc]; rintro (h | h) <;> cases h), if_neg (by decide), if_neg (by decide), if_neg (by decide)]
  have g3 : goS (⟨7, 8, [[97]]⟩ :: stI 7) (txt c) = ⟨7, 4, [[97]]⟩ :: stI 7 := by rfl
  have e4 : stepE (⟨7, 4, [[97]]⟩ :: stI 7) (bare 9) = 0 := by kernel_rfl
  have g4 : goS (⟨7, 4, [[97]]⟩ :: stI 7) (bare 9) = stI 7 := by rfl
  have r1 : rowD ⟨mI a [], stI k, l⟩ = ⟨⟨mI a [], ⟨7, 0, []⟩ :: stI 7, l ++ [bare 7]⟩, 0⟩ := by
    unfold rowD
    rw [if_pos (show (⟨mI a [], stI k, l⟩ : Ds).m.n = 0 from rfl)]
    exact tellD_ok e1 g1
  have r2 : keyD ⟨mI a [], ⟨7, 0, []⟩ :: stI 7, l ++ [bare 7]⟩ = ⟨⟨mI a [], ⟨7, 8, [[97]]⟩ :: stI 7, (l ++ [bare 7]) ++ [keyA]⟩, 0⟩ := tellD_ok (x := keyA) e2 g2
  have r3 : textD ⟨mI a [], ⟨7, 8, [[97]]⟩ :: stI 7, (l ++ [bare 7]) ++ [keyA]⟩ c = ⟨⟨⟨a, [[97]], true, 1, []⟩, ⟨7, 4, [[97]]⟩ :: stI 7, ((l ++ [bare 7]) ++ [keyA]) ++ [txt c]⟩, 0⟩ := tellD_ok (x := txt c) e3 g3
  have rt : tellCellD ⟨mI a [], stI k, l⟩ c = ⟨⟨⟨a, [[97]], true, 1, []⟩, ⟨7, 4, [[97]]⟩ :: stI 7, ((l ++ [bare 7]) ++ [keyA]) ++ [txt c]⟩, 0⟩ := by
    unfold tellCellD
    rw [r1, if_neg (fun h => h rfl), r2, if_neg (fun h => h rfl), r3]
  unfold endCellD
  rw [if_neg (by show ¬ true = false; decide)]
  rw [show emptyD ⟨mI a c, stI k, l⟩ = ⟨mI a [], stI k, l⟩ from rfl, show (⟨mI a c, stI k, l⟩ : Ds).m.c = c from rfl, rt, if_neg (fun h => h rfl)]
  unfold countD
  rw [if_neg (fun h => h rfl), if_neg (fun h => by cases h), tellD_ok e4 g4]
  simp [rowL, mI]
/-- What follows the first row, and the end. -/
def dR (own : List UInt8) : List Ev := ([bare 5] ++ rowL own ++ rowL [120]) ++ [bare 6]
theorem tail_run (own : List UInt8) (rd : Nat) : closeE (feedG (⟨⟨mI 1 [], stI 7, [bare 5] ++ rowL own⟩, 0, 128, 191, 0, rd⟩ : Ss dlP) [120, 10]) = 0 ∧ (closeBs (feedG (⟨⟨mI 1 [], stI 7, [bare 5] ++ rowL own⟩, 0, 128, 191, 0, rd⟩ : Ss dlP) [120, 10])).l = dR own := by
  generalize hl : [bare 5] ++ rowL own = l
  have f1 : feed1 (⟨⟨mI 1 [], stI 7, l⟩, 0, 128, 191, 0, rd⟩ : Ss dlP) 120 = ⟨⟨mI 3 [120], stI 7, l⟩, 0, 128, 191, 0, rd + 1⟩ := feed_ok rfl (show stOk 0 128 191 120 = true by decide) _ rfl
  have f2 : feed1 (⟨⟨mI 3 [120], stI 7, l⟩, 0, 128, 191, 0, rd + 1⟩ : Ss dlP) 10 = ⟨⟨mI 1 [], stI 7, l ++ rowL [120]⟩, 0, 128, 191, 0, rd + 1 + 1⟩ :=
    feed_ok rfl (show stOk 0 128 191 10 = true by decide) _ (row_one 1 7 (.inr rfl) [120] l (by kernel_rfl))
  have hf : feedG (⟨⟨mI 1 [], stI 7, l⟩, 0, 128, 191, 0, rd⟩ : Ss dlP) [120, 10] = ⟨⟨mI 1 [], stI 7, l ++ rowL [120]⟩, 0, 128, 191, 0, rd + 1 + 1⟩ := by
    rw [feedG_cons, f1, feedG_cons, f2]; rfl
  have hfin : finD ⟨mI 1 [], stI 7, l ++ rowL [120]⟩ = ⟨⟨mI 1 [], [⟨0, 5, []⟩], (l ++ rowL [120]) ++ [bare 6]⟩, 0⟩ := by
    unfold finD
    have he : endD ⟨mI 1 [], stI 7, l ++ rowL [120]⟩ = ⟨⟨mI 1 [], stI 7, l ++ rowL [120]⟩, 0⟩ := rfl
    rw [he, if_neg (fun h => h rfl)]
    exact tellD_ok (show stepE (stI 7) (bare 6) = 0 by kernel_rfl) rfl
  rw [hf]
  refine ⟨?_, ?_⟩
  · show (finD ⟨mI 1 [], stI 7, l ++ rowL [120]⟩).e = 0
    rw [hfin]
  · show (finD ⟨mI 1 [], stI 7, l ++ rowL [120]⟩).b.l = dR own
    rw [hfin]
    unfold dR
    rw [← hl]
theorem okA (q r : Int) : stOk 0 q r ((10 : UInt8).toNat : Int) = true := rfl
theorem okB (q r : Int) : stOk 0 q r ((34 : UInt8).toNat : Int) = true := rfl
/-- Bytes that may stand plain. -/
def mayP (b : UInt8) : Prop := 32 ≤ b.toNat ∧ b.toNat ≠ 34 ∧ b.toNat ≠ 44
theorem sc_valid48 {own : List UInt8} (hl : own.length ≤ 40) {p q r : Int} (h : scG 0 128 191 own = some (p, q, r)) : validL own = decide (p = 0) := by
  unfold validL
  rw [decide_eq_true (by omega), sc_valid, h]
  rfl
theorem plain_text {own : List UInt8} (hm : ∀ b ∈ own, mayP b) (hl : own.length ≤ 40) :
    (validL own = true → dEr (tPlain own) = 0 ∧ dEv (tPlain own) = dR own) ∧ (validL own = false → dEr (tPlain own) = 3) := by
  have hX : ∀ c : UInt8, c.toNat ≠ 34 → stepD S1 c = stepD (setA S1 3) c := fun c hc => by
    have h1 : stepD S1 c = cellD S1 c := rfl
    have h2 : stepD (setA S1 3) c = outD (setA S1 3) c := rfl
    rw [h1, h2]
    unfold cellD
    rw [if_neg hc]
  -- from the beginning of the cell, as if it were open
  have hrun : ∀ rest : List UInt8, (∀ p q r, scG 0 128 191 own = some (p, q, r) → own ≠ [] → feedG (⟨S1, 0, 128, 191, 0, 2⟩ : Ss dlP) (own ++ rest) = feedG (⟨addC (setA S1 3) own, p, q, r, 0, 2 + own.length⟩ : Ss dlP) rest) ∧ (scG 0 128 191 own = none → (feedG (⟨S1, 0, 128, 191, 0, 2⟩ : Ss dlP) (own ++ rest)).e = 3) := by
    intro rest
    cases own with
    | nil => exact ⟨(fun _ _ _ _ h => absurd rfl h), (fun h => by cases h)⟩
    | cons c l =>
      have hc := hm c (List.mem_cons_self ..)
      rw [List.cons_append, feedG_cons]
      simp only [scG]
      cases hk : stOk 0 128 191 (c.toNat : Int) with
      | false =>
        rw [if_neg (by decide)]
        refine ⟨(fun p q r h => by cases h), fun _ => ?_⟩
        have h3 := feed_bad (x := (⟨S1, 0, 128, 191, 0, 2⟩ : Ss dlP)) rfl hk
        rw [feedG_stop (by rw [h3]; decide), h3]
      | true =>
        rw [if_pos rfl]
        have h1 : stepD S1 c = ⟨addC (setA S1 3) [c], 0⟩ := (hX c hc.2.1).trans (step_plain3 rfl hc (by decide))
        rw [feed_ok (x := (⟨S1, 0, 128, 191, 0, 2⟩ : Ss dlP)) rfl hk _ h1, feedG_append']
        have hcr := cell_run l (⟨addC (setA S1 3) [c], stL 0 (c.toNat : Int), stLo 0 (c.toNat : Int), stHi 0 (c.toNat : Int), 0, 3⟩ : Ss dlP) rfl (fun b hb s ha hlen => step_plain3 ha (hm b (List.mem_cons_of_mem _ hb)) hlen) (by show 1 + l.length ≤ 48; rw [List.length_cons] at hl; omega)
        refine ⟨fun p q r h _ => ?_, fun h => ?_⟩
        · rw [hcr.1 p q r h]
          show feedG (⟨addC (addC (setA S1 3) [c]) l, p, q, r, 0, 3 + l.length⟩ : Ss dlP) rest = _
          rw [addC_cons, List.length_cons, show 3 + l.length = 2 + (l.length + 1) by omega]
        · have h3 := hcr.2 h
          rw [feedG_stop (by rw [h3]; decide), h3]
  have hsp : feedG (ss0 dlP) (tPlain own) = feedG (⟨S1, 0, 128, 191, 0, 2⟩ : Ss dlP) (own ++ [10, 120, 10]) := by
    unfold tPlain
    rw [feedG_append', head_run]
  have hbad : (feedG (⟨S1, 0, 128, 191, 0, 2⟩ : Ss dlP) (own ++ [10, 120, 10])).e = 3 → dEr (tPlain own) = 3 := fun h => by
    unfold dEr closeE
    rw [hsp, if_pos (by rw [h]; decide), h]
  cases hsc : scG 0 128 191 own with
  | none =>
    have hv : validL own = false := by unfold validL; rw [sc_valid, hsc]; simp
    exact ⟨(fun h => by rw [hv] at h; cases h), fun _ => hbad ((hrun _).2 hsc)⟩
  | some t =>
    obtain ⟨p, q, r⟩ := t
    have hlo := sc_lo own 0 128 191 (Int.le_refl _) (fun h => absurd h (by decide)) p q r hsc
    have hv := sc_valid48 hl hsc
    have hR : feedG (⟨S1, 0, 128, 191, 0, 2⟩ : Ss dlP) (own ++ [10, 120, 10]) = feedG (feed1 (⟨addC (setA S1 3) own, p, q, r, 0, 2 + own.length⟩ : Ss dlP) 10) [120, 10] := by
      by_cases h0 : own = []
      · subst h0
        simp only [scG, Option.some.injEq, Prod.mk.injEq] at hsc
        obtain ⟨rfl, rfl, rfl⟩ := hsc
        rw [List.nil_append, feedG_cons, feed_ok (x := (⟨S1, 0, 128, 191, 0, 2⟩ : Ss dlP)) (c := 10) rfl (show stOk 0 128 191 10 = true by decide) ⟨mI 1 [], stI 7, [bare 5] ++ rowL []⟩ (row_one 1 0 (.inl rfl) [] [bare 5] (by kernel_rfl)), feed_ok (x := (⟨addC (setA S1 3) [], 0, 128, 191, 0, 2 + ([] : List UInt8).length⟩ : Ss dlP)) (c := 10) rfl (show stOk 0 128 191 10 = true by decide) ⟨mI 1 [], stI 7, [bare 5] ++ rowL []⟩ (row_one 1 0 (.inl rfl) [] [bare 5] (by kernel_rfl))]
        rfl
      · rw [(hrun [10, 120, 10]).1 p q r hsc h0, feedG_cons]
    by_cases hp : p = 0
    · subst hp
      have hv' : validL own = true := by rw [hv]; rfl
      refine ⟨fun _ => ?_, (fun h => by rw [hv'] at h; cases h)⟩
      have hstep : stepD (addC (setA S1 3) own) 10 = ⟨⟨mI 1 [], stI 7, [bare 5] ++ rowL own⟩, 0⟩ := row_one 1 0 (.inl rfl) own [bare 5] hv'
      have hf := feed_ok (x := (⟨addC (setA S1 3) own, 0, q, r, 0, 2 + own.length⟩ : Ss dlP)) (c := 10) rfl (okA q r) _ hstep
      have ht := tail_run own (2 + own.length + 1)
      unfold dEr dEv
      rw [hsp, hR, hf]
      exact ht
    · have hv' : validL own = false := by rw [hv]; simpa using hp
      refine ⟨(fun h => by rw [hv'] at h; cases h), fun _ => hbad ?_⟩
      have hok : stOk p q r ((10 : UInt8).toNat : Int) = false := by
        rw [show ((10 : UInt8).toNat : Int) = 10 from rfl, ok_ascii (by decide) (by decide) hlo.1 hlo.2]
        simpa using hp
      have h3 := feed_bad (x := (⟨addC (setA S1 3) own, p, q, r, 0, 2 + own.length⟩ : Ss dlP)) rfl hok
      rw [hR, feedG_stop (by rw [h3]; decide), h3]
theorem quoted_text {own : List UInt8} (hm : ∀ b ∈ own, mayP b) (hl : own.length ≤ 40) :
    (validL own = true → dEr (tQuoted own) = 0 ∧ dEv (tQuoted own) = dR own) ∧ (validL own = false → dEr (tQuoted own) = 3) := by
  have hq : feed1 (⟨S1, 0, 128, 191, 0, 2⟩ : Ss dlP) 34 = ⟨setA S1 4, 0, 128, 191, 0, 3⟩ := feed_ok rfl (show stOk 0 128 191 34 = true by decide) _ rfl
  have hsp : feedG (ss0 dlP) (tQuoted own) = feedG (feedG (⟨setA S1 4, 0, 128, 191, 0, 3⟩ : Ss dlP) own) [34, 10, 120, 10] := by
    unfold tQuoted
    rw [feedG_append', head_run, feedG_cons, hq, feedG_append']
  have hcr := cell_run own (⟨setA S1 4, 0, 128, 191, 0, 3⟩ : Ss dlP) rfl (fun b hb s ha hlen => step_quoted ha (hm b hb).2.1 hlen) (by show 0 + own.length ≤ 48; omega)
  have hbad : (feedG (feedG (⟨setA S1 4, 0, 128, 191, 0, 3⟩ : Ss dlP) own) [34, 10, 120, 10]).e = 3 → dEr (tQuoted own) = 3 := fun h => by
    unfold dEr closeE
    rw [hsp, if_pos (by rw [h]; decide), h]
  cases hsc : scG 0 128 191 own with
  | none =>
    have hv : validL own = false := by unfold validL; rw [sc_valid, hsc]; simp
    refine ⟨(fun h => by rw [hv] at h; cases h), fun _ => hbad ?_⟩
    have h3 := hcr.2 hsc
    rw [feedG_stop (by rw [h3]; decide), h3]
  | some t =>
    obtain ⟨p, q, r⟩ := t
    have hlo := sc_lo own 0 128 191 (Int.le_refl _) (fun h => absurd h (by decide)) p q r hsc
    have hv := sc_valid48 hl hsc
    have hR := hcr.1 p q r hsc
    by_cases hp : p = 0
    · subst hp
      have hv' : validL own = true := by rw [hv]; rfl
      refine ⟨fun _ => ?_, (fun h => by rw [hv'] at h; cases h)⟩
      have s1 : stepD (addC (setA S1 4) own) 34 = ⟨setA (addC (setA S1 4) own) 5, 0⟩ := rfl
      have s2 : stepD (setA (addC (setA S1 4) own) 5) 10 = ⟨⟨mI 1 [], stI 7, [bare 5] ++ rowL own⟩, 0⟩ := row_one 1 0 (.inl rfl) own [bare 5] hv'
      have f1 := feed_ok (x := (⟨addC (setA S1 4) own, 0, q, r, 0, 3 + own.length⟩ : Ss dlP)) (c := 34) rfl (okB q r) _ s1
      have f2 := feed_ok (x := (⟨setA (addC (setA S1 4) own) 5, 0, 128, 191, 0, 3 + own.length + 1⟩ : Ss dlP)) (c := 10) rfl (show stOk 0 128 191 10 = true by decide) _ s2
      have ht := tail_run own (3 + own.length + 1 + 1)
      unfold dEr dEv
      rw [hsp, hR, feedG_cons]
      have f1' : feed1 (⟨addC (setA S1 4) own, 0, q, r, 0, 3 + own.length⟩ : Ss dlP) 34 = ⟨setA (addC (setA S1 4) own) 5, 0, 128, 191, 0, 3 + own.length + 1⟩ := f1
      rw [f1', feedG_cons, f2]
      exact ht
    · have hv' : validL own = false := by rw [hv]; simpa using hp
      refine ⟨(fun h => by rw [hv'] at h; cases h), fun _ => hbad ?_⟩
      have hok : stOk p q r ((34 : UInt8).toNat : Int) = false := by
        rw [show ((34 : UInt8).toNat : Int) = 34 from rfl, ok_ascii (by decide) (by decide) hlo.1 hlo.2]
        simpa using hp
      have h3 := feed_bad (x := (⟨addC (setA S1 4) own, p, q, r, 0, 3 + own.length⟩ : Ss dlP)) rfl hok
      rw [hR, feedG_cons, feedG_stop (by rw [h3]; decide), h3]
end Go.Proofs.YtfciacigamjfkabGreat
namespace Go.Proofs.YtfciacigamjfkabGreat
open Go.RowKit Go.Maps
set_option maxRecDepth 100000
set_option linter.unusedSimpArgs false
set_option linter.unusedVariables false
set_option linter.unusedSectionVars false
variable [Tab] [Fo]

/-- What is told of a cell. -/
def cellT (ns : List (List UInt8)) (k : Nat) (x : Tx) (r : CellR) : Tx :=
  tellX (tellX (if k = 0 then tellX { x with at' := r.at' } 7 ⟨#[]⟩ else { x with at' := r.at' }) 8 ⟨(ns.getD k []).toArray⟩) 4 ⟨r.out.toArray⟩
def rowF (ns : List (List UInt8)) : Nat → Nat → Tx → Tx × Bool
  | 0, _, x => (x, true)
  | f + 1, k, x =>
    if (cellR x).e ≠ 0 then (badX { x with at' := (cellR x).at' } (cellR x).e (cellR x).at', false)
    else if isX (cellT ns k x (cellR x)) 44 ≠ decide (k + 1 < ns.length) then ({ badX (cellT ns k x (cellR x)) 17 (cellR x).at' with at' := (cellR x).at' + 1 }, false)
    else rowF ns f (k + 1) { cellT ns k x (cellR x) with at' := (cellR x).at' + 1 }
def rowsF (ns : List (List UInt8)) : Nat → Tx → Tx × Bool
  | 0, x => (x, true)
  | f + 1, x =>
    if x.at' < x.s.length then
      (if (rowF ns ns.length 0 x).2 = true then rowsF ns f (tellX (rowF ns ns.length 0 x).1 9 ⟨#[]⟩) else ((rowF ns ns.length 0 x).1, false))
    else (x, true)
/-- What stays of a text that is read. -/
structure TxK (S : List UInt8) (y : Tx) : Prop where
  s : y.s = S
  at1 : y.at' ≤ S.length + 1
  ln : y.l.length ≤ 5 * y.at' + 10
theorem tellX_k (x : Tx) (k : Int) (t : ByteArray) : (tellX x k t).s = x.s ∧ (tellX x k t).at' = x.at' ∧ (tellX x k t).cl = x.cl ∧ (tellX x k t).l.length = x.l.length + 1 := ⟨rfl, rfl, rfl, by simp [tellX]⟩
theorem cellT_k (ns : List (List UInt8)) (k : Nat) (x : Tx) (r : CellR) : (cellT ns k x r).s = x.s ∧ (cellT ns k x r).at' = r.at' ∧ (cellT ns k x r).cl = x.cl ∧ (cellT ns k x r).l.length ≤ x.l.length + 3 := by
  unfold cellT tellX
  split
  · exact ⟨rfl, rfl, rfl, by simp⟩
  · exact ⟨rfl, rfl, rfl, by simp⟩
def boolOf : Value → Bool
  | .bool b => b
  | _ => false
/-- What a round of the rows holds. -/
structure RowH (w wr : World) (base t : Nat) (S : List UInt8) (ns : List (List UInt8)) (nv : Value) (y : Tx) : Prop where
  tx : ∃ lv, TxAt wr base t y lv
  k : TxK S y
  row : ORow wr w.heap.size 9 nv (ns.map strV)
  tch : Tch base txObj w wr
theorem RowH.tell {w wr w' : World} {base t : Nat} {S : List UInt8} {ns : List (List UInt8)} {nv : Value} {y y' : Tx} (h : RowH w wr base t S ns nv y) (hx : ∃ lv, TxAt w' base t y' lv) (hk : TxK S y') (ht : Tch base txObj wr w') : RowH w w' base t S ns nv y' :=
  ⟨hx, hk, row_tch h.row ht (fun _ _ => by simp only [txObj]; decide), h.tch.trans ht⟩
end Go.Proofs.YtfciacigamjfkabGreat
namespace Go.Proofs.YtfciacigamjfkabGreat
open Go.RowKit Go.Maps
set_option maxRecDepth 100000
set_option linter.unusedSimpArgs false
set_option linter.unusedVariables false
set_option linter.unusedSectionVars false
variable [Tab] [Fo]

def tellIf (b : Bool) (x : Tx) (k : Int) : Tx := if b = true then tellX x k ⟨#[]⟩ else x
def spec0 (S : List UInt8) : Tx := tellIf (decide ((begX S).s ≠ []) || decide (badN S < 0)) (begX S) 5
/-- What the reference says of a text: all that was read. -/
def specX (S : List UInt8) : Tx :=
  if (begX S).s = [] then tellIf (decide (badN S < 0)) (spec0 S) 6
  else if (headF (spec0 S) 8 [] 0).e ≠ 0 then badX { spec0 S with at' := (headF (spec0 S) 8 [] 0).at' } (headF (spec0 S) 8 [] 0).e (headF (spec0 S) 8 [] 0).at'
  else tellIf ((rowsF (headF (spec0 S) 8 [] 0).ns (S.length + 2) { spec0 S with at' := (headF (spec0 S) 8 [] 0).at' }).2 && decide (badN S < 0)) (rowsF (headF (spec0 S) 8 [] 0).ns (S.length + 2) { spec0 S with at' := (headF (spec0 S) 8 [] 0).at' }).1 6

section
variable {w wr : World} {base t : Nat} {S : List UInt8} {ns : List (List UInt8)} {nv : Value} {y : Tx}
/-- Tell, of a text that is read in rows. -/
theorem row_tell (h : RowH w wr base t S ns nv y) (hf : ¬ Fo.F t) (hb : base ≤ w.heap.size) (hS : S.length ≤ 900) (hl : y.l.length ≤ 20000) (k : Int) (s : ByteArray) (hk : TxK S (tellX y k s)) :
    Calls Tryz.prog 35 #[.pointer (some ⟨t, 0, none⟩), .int .i64 k, .string s] wr fun f w' => f = .returned (.tuple #[]) ∧ RowH w w' base t S ns nv (tellX y k s) := by
  obtain ⟨lv, hx⟩ := h.tx
  refine (rtell_any wr base t y lv k s hx hf (Nat.le_trans hb h.tch.size) (by omega)).mono ?_
  rintro f w' ⟨rfl, hx', ht⟩
  exact ⟨rfl, h.tell hx' hk ht⟩
theorem row_is (h : RowH w wr base t S ns nv y) (hS : S.length ≤ 900) (c : Int) :
    Calls Tryz.prog 39 #[.pointer (some ⟨t, 0, none⟩), .int .u8 c] wr fun f w' => f = .returned (.bool (isX y c)) ∧ RowH w w' base t S ns nv y ∧ ∃ n, w' = wr.drewN n := by
  obtain ⟨lv, hx⟩ := h.tx
  have hk := h.k
  refine (is_any wr base t y lv c hx (by rw [hk.s]; omega) (by have := hk.at1; omega)).mono ?_
  rintro f w' ⟨rfl, n, rfl⟩
  exact ⟨rfl, ⟨⟨lv, hx.drewN n⟩, hk, h.row.drewN n, h.tch.drewN n⟩, n, rfl⟩
theorem row_bad (h : RowH w wr base t S ns nv y) (hf : ¬ Fo.F t) (e pl : Int) :
    Calls Tryz.prog 40 #[.pointer (some ⟨t, 0, none⟩), .int .i64 e, .int .i64 pl] wr fun f w' => f = .returned (.bool false) ∧ RowH w w' base t S ns nv (badX y e pl) := by
  obtain ⟨lv, hx⟩ := h.tx
  refine (bad_any wr base t y lv e pl hx hf).mono ?_
  rintro f w' ⟨rfl, hx', ht⟩
  refine ⟨rfl, h.tell ⟨lv, hx'⟩ ?_ (ht.wide fun _ => tx_of)⟩
  have hk := h.k
  unfold badX
  split
  · exact ⟨hk.s, hk.at1, hk.ln⟩
  · exact hk
/-- The place moved on. -/
theorem row_step (h : RowH w wr base t S ns nv y) (hf : ¬ Fo.F t) (a : Nat) (ha : y.at' = a) (hS : a ≤ S.length) : RowH w (wr.setCell ⟨t, 1, none⟩ (.int .i64 ((a : Int) + 1))) base t S ns nv { y with at' := a + 1 } := by
  obtain ⟨lv, hx⟩ := h.tx
  obtain ⟨h1, h2⟩ := tx_step hx hf a ha
  have hk := h.k
  have := hk.ln
  exact h.tell ⟨lv, h1⟩ ⟨hk.s, by show a + 1 ≤ _; omega, by show y.l.length ≤ 5 * (a + 1) + 10; omega⟩ (h2.wide fun _ => tx_of)
theorem row_cell (h : RowH w wr base t S ns nv y) (hf : ¬ Fo.F t) (hb : base ≤ w.heap.size) (hS : S.length ≤ 900) (ha : y.at' ≤ S.length) :
    Calls Tryz.prog 38 #[.pointer (some ⟨t, 0, none⟩)] wr fun f w' =>
      ((cellR y).e = 0 → f = .returned (.tuple #[.string ⟨(cellR y).out.toArray⟩, .bool true]) ∧ RowH w w' base t S ns nv { y with at' := (cellR y).at' }) ∧
      ((cellR y).e ≠ 0 → f = .returned (.tuple #[.string ⟨#[]⟩, .bool false]) ∧ RowH w w' base t S ns nv (badX { y with at' := (cellR y).at' } (cellR y).e (cellR y).at')) := by
  obtain ⟨lv, hx⟩ := h.tx
  have hk := h.k
  have hat := cellR_at y (by rw [hk.s]; exact ha)
  rw [hk.s] at hat
  have hkk : TxK S { y with at' := (cellR y).at' } := ⟨hk.s, by show (cellR y).at' ≤ _; omega, by have := hk.ln; show y.l.length ≤ 5 * (cellR y).at' + 10; omega⟩
  refine (cell_any wr base t y lv hx hf (by rw [hk.s]; omega) (by rw [hk.s]; exact ha) (Nat.le_trans hb h.tch.size)).mono ?_
  rintro f w' ⟨h1, h2, h3⟩
  refine ⟨fun he => ?_, fun he => ?_⟩
  · obtain ⟨q1, q2⟩ := h1 he
    exact ⟨q1, h.tell ⟨lv, q2⟩ hkk (h3.wide fun _ => tx_of)⟩
  · obtain ⟨q1, q2⟩ := h2 he
    refine ⟨q1, h.tell ⟨lv, q2⟩ ?_ (h3.wide fun _ => tx_of)⟩
    unfold badX
    split
    · exact ⟨hkk.s, hkk.at1, hkk.ln⟩
    · exact hkk
end
end Go.Proofs.YtfciacigamjfkabGreat
