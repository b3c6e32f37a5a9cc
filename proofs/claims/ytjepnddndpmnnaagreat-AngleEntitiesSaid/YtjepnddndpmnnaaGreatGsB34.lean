/-
  angle: what holds between the bytes: pure.
-/
import Derived.Test.YtjepnddndpmnnaaGreatGsB33
namespace Go.Proofs.YtjepnddndpmnnaaGreat
open Go.RowKit Go.Maps
set_option maxRecDepth 100000
set_option linter.unusedSimpArgs false
set_option linter.unusedVariables false
set_option linter.unusedSectionVars false
set_option linter.unusedSectionVars false
variable [Tab] [Fo]

/-- What holds of the machine between the bytes. -/
structure MInv (M : Ag) (n : Nat) : Prop where
  a0 : 0 ≤ M.a ∧ M.a ≤ 18
  rest : M.rest.length ≤ 8
  ent : M.ent.length ≤ 16
  nmd : M.nmd.length ≤ 16
  rt : M.rt.length ≤ 48
  rn : M.rn.length ≤ 16
  nt : M.nt.length ≤ 16
  np : M.np.length ≤ 16
  elp : M.el.p.length ≤ 16
  ell : M.el.l.length ≤ 16
  anp : M.an.p.length ≤ 16
  anl : M.an.l.length ≤ 16
  al : M.ats.length ≤ 20
  al2 : M.a = 12 ∨ M.a = 13 → M.ats.length ≤ 19
  aok : ∀ a ∈ M.ats, a.1.p.length ≤ 16 ∧ a.1.l.length ≤ 16 ∧ a.2.length ≤ 48
  sp : SpsOk M.sc
  op : M.op.length ≤ n
  sl : M.sc.length ≤ n
  rs : M.a = 2 → M.rest ≠ []
  opn : M.a = 14 ∨ M.a = 16 ∨ M.a = 17 → M.op ≠ []
/-- The same, with an Out. -/
structure AInv (s : As) (n : Nat) : Prop where
  m : MInv s.m n
  good : Good s.st
  ln : s.l.length + s.m.ats.length ≤ 2 * n
section
variable {M M' : Ag} {s : As} {n k : Nat} {b : UInt8}
theorem MInv.mono (h : MInv M n) (hk : n ≤ k) : MInv M k := { h with op := Nat.le_trans h.op hk, sl := Nat.le_trans h.sl hk }
theorem MInv.at (h : MInv M n) (a : Int) (h0 : 0 ≤ a ∧ a ≤ 18) (h1 : a ≠ 12 ∧ a ≠ 13) (h2 : a ≠ 2) (h3 : a ≠ 14 ∧ a ≠ 16 ∧ a ≠ 17) : MInv { M with a := a } n :=
  { h with a0 := h0, al2 := fun hc => by rcases hc with hc | hc; exact absurd hc h1.1; exact absurd hc h1.2, rs := fun hc => absurd hc h2, opn := fun hc => by rcases hc with hc | hc | hc; exact absurd hc h3.1; exact absurd hc h3.2.1; exact absurd hc h3.2.2 }
theorem MInv.to (h : MInv M n) (a : Int) (h0 : 0 ≤ a ∧ a ≤ 18) (h1 : a = 12 ∨ a = 13 → M.ats.length ≤ 19) (h2 : a = 2 → M.rest ≠ []) (h3 : a = 14 ∨ a = 16 ∨ a = 17 → M.op ≠ []) : MInv { M with a := a } n :=
  { h with a0 := h0, al2 := h1, rs := h2, opn := h3 }
theorem AInv.pre (h : AInv s n) (hn : n ≤ 100000) : APre s := by
  have hm := h.m
  have hl := h.ln
  refine ⟨⟨by have := hm.ent; omega, by have := hm.nmd; omega, by have := hm.rt; omega, by have := hm.rn; omega, by have := hm.nt; omega, by have := hm.np; omega⟩, ⟨by have := hm.al; omega, fun a ha => by have := hm.aok a ha; omega, by have := hm.elp; omega, by have := hm.ell; omega, h.good, by omega, hm.sp, by have := hm.op; omega, by have := hm.sl; omega⟩, by have := hm.rest; omega, hm.rs, hm.opn⟩
theorem minv0 : MInv ag0 0 := by
  refine ⟨by decide, by decide, by decide, by decide, by decide, by decide, by decide, by decide, by decide, by decide, by decide, by decide, by decide, fun _ => by decide, fun a ha => (by cases ha), fun m hm => (by cases hm), by decide, by decide, fun hc => absurd hc (by decide), fun hc => ?_⟩
  rcases hc with hc | hc | hc <;> exact absurd hc (by decide)
theorem good0 : Good [topP] := ⟨by unfold Outer; simp [topP], by decide⟩
theorem ainv0 : AInv as0 0 := ⟨minv0, good0, by decide⟩

theorem nz {k : Int} {M : Ag} (h : k ≠ 0) : ¬ (⟨M, k⟩ : Mr).e = 0 := h
theorem minv_put (h : MInv M n) (t : List UInt8) (he : (putR M t).e = 0) : MInv (putR M t).m n := by
  unfold putR at he ⊢
  split
  · rename_i hc; rw [if_pos hc] at he; exact absurd he (nz (by decide))
  · rename_i hc; exact { h with rt := by show (M.rt ++ t).length ≤ 48; rw [List.length_append]; omega }
theorem minv_refer (h : MInv M n) (he : (referA M b).e = 0) : MInv (referA M b).m n := by
  unfold referA at he ⊢
  by_cases h1 : goesN M.rn b = true
  · rw [if_pos h1] at he ⊢
    by_cases h2 : 16 ≤ M.rn.length
    · rw [if_pos h2] at he; exact absurd he (nz (by decide))
    · rw [if_neg h2]; exact { h with rn := by show (M.rn ++ [b]).length ≤ 16; rw [List.length_append, List.length_singleton]; omega }
  · rw [if_neg h1] at he ⊢
    by_cases h2 : M.rn = [] ∨ b.toNat ≠ 59
    · rw [if_pos h2] at he; exact absurd he (nz (by decide))
    · rw [if_neg h2] at he ⊢
      by_cases h3 : (getA M).e ≠ 0
      · rw [if_pos h3] at he; exact absurd he h3
      · rw [if_neg h3] at he ⊢
        exact minv_put (M := { M with rn := [], told := (getA M).told, rr := false }) { h with rn := by simp } _ he
theorem minv_add (h : MInv M n) (he : (addR M b).e = 0) : MInv (addR M b).m n := by
  unfold addR at he ⊢
  by_cases h1 : M.rr = true
  · rw [if_pos h1] at he ⊢; exact minv_refer h he
  · rw [if_neg h1] at he ⊢
    by_cases h2 : b.toNat = 38
    · rw [if_pos h2]; exact { h with }
    · rw [if_neg h2] at he ⊢
      by_cases h3 : b.toNat = 60 ∨ (b.toNat < 32 ∧ blankB b = false)
      · rw [if_pos h3] at he; exact absurd he (nz (by decide))
      · rw [if_neg h3] at he ⊢; exact minv_put h _ he
theorem minv_name (h : MInv M n) (he : (nameAdd M b).e = 0) : MInv (nameAdd M b).m n := by
  unfold nameAdd at he ⊢
  by_cases h1 : b.toNat ≠ 58
  · rw [if_pos h1] at he ⊢
    by_cases h2 : 16 ≤ M.nt.length
    · rw [if_pos h2] at he; exact absurd he (nz (by decide))
    · rw [if_neg h2]; exact { h with nt := by show (M.nt ++ [b]).length ≤ 16; rw [List.length_append, List.length_singleton]; omega }
  · rw [if_neg h1]; exact { h with np := h.nt, nt := by simp }
theorem must_m {c : Nat} {a : Int} (he : (mustA M b c a).e = 0) : (mustA M b c a).m = { M with a := a } := by
  unfold mustA at he ⊢
  split
  · rename_i hc; rw [if_pos hc] at he; exact absurd he (nz (by decide))
  · rfl
theorem put_ats (t : List UInt8) : (putR M t).m.ats = M.ats := by unfold putR; split <;> rfl
theorem refer_ats : (referA M b).m.ats = M.ats := by
  unfold referA
  split
  · split <;> rfl
  · split
    · rfl
    · split
      · rfl
      · rw [put_ats]
theorem add_ats : (addR M b).m.ats = M.ats := by
  unfold addR
  split
  · exact refer_ats
  · split
    · rfl
    · split
      · rfl
      · exact put_ats _
theorem name_ats : (nameAdd M b).m.ats = M.ats := by
  unfold nameAdd
  split
  · split <;> rfl
  · rfl
theorem gone (h : MInv M n) : MInv (nameGone M) n := { h with nt := by show ([] : List UInt8).length ≤ 16; simp, np := by show ([] : List UInt8).length ≤ 16; simp }

/-! Telling. -/
theorem tellAts_m : ∀ (l : List (Na × List UInt8)) (s : As), (tellAts l s).b.m = s.m
  | [], s => rfl
  | a :: r, s => by
    rw [tellAts]
    split
    · exact tellAts_m r s
    · split
      · exact tellN_m _ _ _ _
      · rw [tellAts_m r, tellN_m]
theorem tellAts_good : ∀ (l : List (Na × List UInt8)) (s : As), Good s.st → Good (tellAts l s).b.st
  | [], s, h => h
  | a :: r, s, h => by
    rw [tellAts]
    split
    · exact tellAts_good r s h
    · split
      · exact tellN_good h _ _ _
      · exact tellAts_good r _ (tellN_good h _ _ _)
theorem tellAts_len : ∀ (l : List (Na × List UInt8)) (s : As), (tellAts l s).b.l.length ≤ s.l.length + l.length
  | [], s => Nat.le_refl _
  | a :: r, s => by
    rw [tellAts]
    split
    · have := tellAts_len r s; simp only [List.length_cons]; omega
    · split
      · have := tellN_len s false a.1 a.2; simp only [List.length_cons]; omega
      · have := tellAts_len r (tellN s false a.1 a.2).b; have := tellN_len s false a.1 a.2; simp only [List.length_cons]; omega
theorem tellElem_len (s : As) : (tellElemA s).b.l.length ≤ s.l.length + 1 + s.m.ats.length := by
  have h1 := tellN_len s true s.m.el []
  have h2 := tellAts_len s.m.ats (tellN s true s.m.el []).b
  unfold tellElemA
  split
  · omega
  · split
    · omega
    · show (tellAts s.m.ats (tellN s true s.m.el []).b).b.l.length ≤ _; omega
theorem tellElem_ok {s : As} (h : (tellElemA s).e = 0) : (tellElemA s).b.m = { s.m with ats := [] } ∧ (Good s.st → Good (tellElemA s).b.st) := by
  unfold tellElemA at h ⊢
  by_cases h1 : (tellN s true s.m.el []).e ≠ 0
  · rw [if_pos h1] at h; exact absurd h h1
  · rw [if_neg h1] at h ⊢
    by_cases h2 : (tellAts s.m.ats (tellN s true s.m.el []).b).e ≠ 0
    · rw [if_pos h2] at h; exact absurd h h2
    · rw [if_neg h2]; exact ⟨rfl, fun hg => tellAts_good _ _ (tellN_good hg _ _ _)⟩
theorem bindAll_len : ∀ (l : List (Na × List UInt8)) (st : Ns.St), (bindAllA l st).st.length = st.length
  | [], st => rfl
  | a :: l, st => by
    have hb : ∀ p t, (Ns.bindS p t st).length = st.length := fun p t => by
      cases st with
      | nil => rfl
      | cons m r => simp only [Ns.bindS]; split <;> simp
    rw [bindAllA]
    cases bindsA a.1 with
    | none => exact bindAll_len l st
    | some p =>
      simp only
      split
      · rw [bindAll_len l, hb]
      · exact hb _ _
theorem open_len (s : As) : (openA s).b.l.length ≤ s.l.length + 1 + s.m.ats.length := by
  unfold openA
  split
  · show s.l.length ≤ _; omega
  · exact tellElem_len _
theorem open_inv (h : AInv s n) {a : Int} (ha : a = 14 ∨ a = 15) (he : (openA (setAt s a)).e = 0) : AInv (openA (setAt s a)).b (n + 2) := by
  have hln : (openA (setAt s a)).b.l.length ≤ s.l.length + 1 + s.m.ats.length := open_len (setAt s a)
  by_cases h1 : (bindAllA s.m.ats ([] :: s.m.sc)).e ≠ 0
  · unfold openA at he
    rw [if_pos (show (bindAllA (setAt s a).m.ats ([] :: (setAt s a).m.sc)).e ≠ 0 from h1)] at he
    exact absurd he h1
  · have hq : openA (setAt s a) = tellElemA { setAt s a with m := { opened (setAt s a).m with sc := (bindAllA s.m.ats ([] :: s.m.sc)).st } } := by
      unfold openA
      rw [if_neg (show ¬ (bindAllA (setAt s a).m.ats ([] :: (setAt s a).m.sc)).e ≠ 0 from h1)]
      rfl
    rw [hq] at he hln ⊢
    obtain ⟨hm, hg⟩ := tellElem_ok he
    have hM := h.m
    have hsp : SpsOk (bindAllA s.m.ats ([] :: s.m.sc)).st := hM.sp.open_.bindAll fun a ha => by have := hM.aok a ha; omega
    refine ⟨?_, hg h.good, ?_⟩
    · rw [hm]
      have hB : MInv { s.m with sc := (bindAllA s.m.ats ([] :: s.m.sc)).st, op := s.m.op ++ [s.m.el] } (n + 2) :=
        { hM.mono (show n ≤ n + 2 by omega) with
          sp := hsp
          op := (by show (s.m.op ++ [s.m.el]).length ≤ n + 2; rw [List.length_append, List.length_singleton]; have := hM.op; omega)
          sl := (by show (bindAllA s.m.ats ([] :: s.m.sc)).st.length ≤ n + 2; rw [bindAll_len, List.length_cons]; have := hM.sl; omega)
          opn := fun _ => (by show s.m.op ++ [s.m.el] ≠ []; simp) }
      exact { hB.to a (by omega) (fun hc => by omega) (fun hc => by omega) (fun _ => by show s.m.op ++ [s.m.el] ≠ []; simp) with
        al := (by show ([] : List (Na × List UInt8)).length ≤ 20; simp)
        al2 := fun _ => (by show ([] : List (Na × List UInt8)).length ≤ 19; simp)
        aok := fun x hx => (by cases hx) }
    · have hz : (tellElemA { setAt s a with m := { opened (setAt s a).m with sc := (bindAllA s.m.ats ([] :: s.m.sc)).st } }).b.m.ats = [] := by rw [hm]
      have := h.ln
      rw [hz, List.length_nil]
      omega
theorem nzA {k : Int} {s : As} (h : k ≠ 0) : ¬ (⟨s, k⟩ : Ar).e = 0 := h
theorem endattrs_inv (h : AInv s n) (he : (endAttrsA s b).e = 0) : AInv (endAttrsA s b).b (n + 2) := by
  unfold endAttrsA at he ⊢
  by_cases h1 : b.toNat = 47
  · rw [if_pos h1] at he ⊢; exact open_inv h (.inl rfl) he
  · rw [if_neg h1] at he ⊢
    by_cases h2 : b.toNat = 62
    · rw [if_pos h2] at he ⊢; exact open_inv h (.inr rfl) he
    · rw [if_neg h2] at he; exact absurd he (nzA (by decide))
theorem AInv.mono (h : AInv s n) (hk : n ≤ k) : AInv s k := ⟨h.m.mono hk, h.good, by have := h.ln; omega⟩
/-- Where the machine alone has turned, and its attributes have not. -/
theorem AInv.mr (h : AInv s n) {r : Mr} (hm : MInv r.m n) (ha : r.m.ats = s.m.ats) : AInv (s.mr r).b (n + 2) :=
  ⟨hm.mono (by omega), h.good, by show s.l.length + r.m.ats.length ≤ _; rw [ha]; have := h.ln; omega⟩
theorem AInv.setA (h : AInv s n) (a : Int) (h0 : 0 ≤ a ∧ a ≤ 18) (h1 : a ≠ 12 ∧ a ≠ 13) (h2 : a ≠ 2) (h3 : a ≠ 14 ∧ a ≠ 16 ∧ a ≠ 17) : AInv (setAt s a) (n + 2) :=
  ⟨(h.m.at a h0 h1 h2 h3).mono (by omega), h.good, by have := h.ln; show s.l.length + s.m.ats.length ≤ _; omega⟩
theorem behind_inv (h : AInv s n) (he : (behindAttrA s b).e = 0) : AInv (behindAttrA s b).b (n + 2) := by
  unfold behindAttrA at he ⊢
  split
  · exact h.setA 9 (by decide) (by decide) (by decide) (by decide)
  · rename_i hc; rw [if_neg hc] at he; exact endattrs_inv h he
theorem inelem_inv (h : AInv s n) (he : (inElem s b).e = 0) : AInv (inElem s b).b (n + 2) := by
  unfold inElem at he ⊢
  by_cases h1 : goesA s.m b = true
  · rw [if_pos h1] at he ⊢; exact h.mr (minv_name h.m he) name_ats
  · rw [if_neg h1] at he ⊢
    by_cases h2 : s.m.nt = []
    · rw [if_pos h2] at he; exact absurd he (nzA (by decide))
    · rw [if_neg h2] at he ⊢
      exact behind_inv (s := { s with m := { nameGone s.m with el := nameOf s.m, a := 8 } }) ⟨{ (gone h.m).at 8 (by decide) (by decide) (by decide) (by decide) with elp := h.m.np, ell := h.m.nt }, h.good, h.ln⟩ he
theorem equals_inv (h : AInv s n) (he : (equalsA s.m b).e = 0) : AInv (s.mr (equalsA s.m b)).b (n + 2) := by
  unfold equalsA at he ⊢
  by_cases h1 : b.toNat = 61 ∧ 20 ≤ s.m.ats.length
  · rw [if_pos h1] at he; exact absurd he (nz (by decide))
  · rw [if_neg h1] at he ⊢
    have hm := must_m he
    have hb : b.toNat = 61 := by
      unfold mustA at he
      by_cases hc : b.toNat ≠ 61
      · rw [if_pos hc] at he; exact absurd he (nz (by decide))
      · omega
    refine h.mr ?_ (by rw [hm])
    rw [hm]
    exact h.m.to 12 (by decide) (fun _ => by omega) (fun hc => absurd hc (by decide)) (fun hc => by rcases hc with hc | hc | hc <;> exact absurd hc (by decide))
theorem inattr_inv (h : AInv s n) (he : (inAttr s b).e = 0) : AInv (inAttr s b).b (n + 2) := by
  unfold inAttr at he ⊢
  by_cases h1 : goesA s.m b = true
  · rw [if_pos h1] at he ⊢; exact h.mr (minv_name h.m he) name_ats
  · rw [if_neg h1] at he ⊢
    by_cases h2 : s.m.nt = []
    · rw [if_pos h2] at he; exact absurd he (nzA (by decide))
    · rw [if_neg h2] at he ⊢
      exact equals_inv (s := { s with m := { nameGone s.m with an := nameOf s.m, a := 11 } }) ⟨{ (gone h.m).at 11 (by decide) (by decide) (by decide) (by decide) with anp := h.m.np, anl := h.m.nt }, h.good, h.ln⟩ he
theorem endelem_inv (h : AInv s n) : AInv (endElemA s).b (n + 2) := by
  have hM := h.m
  have hl := tellL_len s.st s.l (bare 12)
  refine ⟨{ hM with a0 := ?_, al2 := ?_, sp := hM.sp.close, op := ?_, sl := ?_, rs := ?_, opn := ?_ }, good_step h.good _, ?_⟩
  · show 0 ≤ (if s.m.op.dropLast = [] then (18 : Int) else 15) ∧ (if s.m.op.dropLast = [] then (18 : Int) else 15) ≤ 18
    split <;> decide
  · intro hc
    have hc' : (if s.m.op.dropLast = [] then (18 : Int) else 15) = 12 ∨ (if s.m.op.dropLast = [] then (18 : Int) else 15) = 13 := hc
    split at hc' <;> exact absurd hc' (by decide)
  · show s.m.op.dropLast.length ≤ n + 2
    rw [List.length_dropLast]; have := hM.op; omega
  · show (Ns.closeS s.m.sc).length ≤ n + 2
    have := hM.sl
    cases hq : s.m.sc with
    | nil => simp [Ns.closeS]
    | cons m r => rw [hq] at this; simp only [List.length_cons] at this; simp only [Ns.closeS]; omega
  · intro hc
    have hc' : (if s.m.op.dropLast = [] then (18 : Int) else 15) = 2 := hc
    split at hc' <;> exact absurd hc' (by decide)
  · intro hc
    have hc' : (if s.m.op.dropLast = [] then (18 : Int) else 15) = 14 ∨ (if s.m.op.dropLast = [] then (18 : Int) else 15) = 16 ∨ (if s.m.op.dropLast = [] then (18 : Int) else 15) = 17 := hc
    split at hc' <;> exact absurd hc' (by decide)
  · have := h.ln
    show (tellL s.st s.l (bare 12)).length + s.m.ats.length ≤ _
    omega
theorem endtag_inv (h : AInv s n) (he : (endTagA s b).e = 0) : AInv (endTagA s b).b (n + 2) := by
  unfold endTagA at he ⊢
  by_cases h1 : b.toNat ≠ 62
  · rw [if_pos h1] at he; exact absurd he (nzA (by decide))
  · rw [if_neg h1] at he ⊢
    by_cases h2 : s.m.en ≠ s.m.op.getLastD ⟨[], []⟩
    · rw [if_pos h2] at he; exact absurd he (nzA (by decide))
    · rw [if_neg h2]; exact endelem_inv h
theorem inend_inv (h : AInv s n) (ho : s.m.op ≠ []) (he : (inEnd s b).e = 0) : AInv (inEnd s b).b (n + 2) := by
  unfold inEnd at he ⊢
  by_cases h1 : goesA s.m b = true
  · rw [if_pos h1] at he ⊢; exact h.mr (minv_name h.m he) name_ats
  · rw [if_neg h1] at he ⊢
    by_cases h2 : s.m.nt = []
    · rw [if_pos h2] at he; exact absurd he (nzA (by decide))
    · rw [if_neg h2] at he ⊢
      have hI : AInv { s with m := { nameGone s.m with en := nameOf s.m, a := 17 } } n := ⟨{ (gone h.m).to 17 (by decide) (fun hc => by rcases hc with hc | hc <;> exact absurd hc (by decide)) (fun hc => absurd hc (by decide)) (fun _ => ho) with }, h.good, h.ln⟩
      unfold atEnd at he ⊢
      split
      · exact hI.mono (by omega)
      · rename_i hc; rw [if_neg hc] at he; exact endtag_inv hI he
theorem marked_inv (h : AInv s n) (hr : s.m.a = 2 ∧ s.m.rest ≠ []) (he : (markedA s.m b).e = 0) : AInv (s.mr (markedA s.m b)).b (n + 2) := by
  have hM := h.m
  unfold markedA at he ⊢
  by_cases h1 : b ≠ s.m.rest.headD 0
  · rw [if_pos h1] at he; exact absurd he (nz (by decide))
  · rw [if_neg h1]
    by_cases h2 : s.m.rest.tail = []
    · rw [if_pos h2]
      refine h.mr (r := ⟨{ s.m with rest := [], a := 3 }, 0⟩) ?_ rfl
      exact ({ hM.to 3 (by decide) (fun hc => by rcases hc with hc | hc <;> exact absurd hc (by decide)) (fun hc => absurd hc (by decide)) (fun hc => by rcases hc with hc | hc | hc <;> exact absurd hc (by decide)) with rest := (by simp), rs := fun hc => absurd (show (3 : Int) = 2 from hc) (by decide) } : MInv { s.m with rest := [], a := 3 } n).to 3 (by decide) (fun hc => by rcases hc with hc | hc <;> exact absurd hc (by decide)) (fun hc => absurd hc (by decide)) (fun hc => by rcases hc with hc | hc | hc <;> exact absurd hc (by decide))
    · rw [if_neg h2]
      refine h.mr (r := ⟨{ s.m with rest := s.m.rest.tail }, 0⟩) ?_ rfl
      exact { hM with rest := (by show s.m.rest.tail.length ≤ 8; rw [List.length_tail]; have := hM.rest; omega), rs := fun _ => h2 }
theorem begin_inv (h : AInv s n) (he : (beginA s b).e = 0) : AInv (beginA s b).b (n + 2) := by
  have hM := h.m
  unfold beginA at he ⊢
  by_cases h1 : s.m.op = [] ∧ b.toNat = 33
  · rw [if_pos h1] at he ⊢
    exact marked_inv (s := { s with m := { s.m with a := 2, rest := markL } }) ⟨({ hM with rest := (by show markL.length ≤ 8; decide), rs := fun _ => (by show markL ≠ []; decide) } : MInv { s.m with rest := markL } n).to 2 (by decide) (fun hc => by rcases hc with hc | hc <;> exact absurd hc (by decide)) (fun _ => by show markL ≠ []; decide) (fun hc => by rcases hc with hc | hc | hc <;> exact absurd hc (by decide)), h.good, h.ln⟩ ⟨rfl, by show markL ≠ []; decide⟩ he
  · rw [if_neg h1] at he ⊢
    by_cases h2 : s.m.op ≠ [] ∧ b.toNat = 47
    · rw [if_pos h2]
      exact ⟨(hM.to 16 (by decide) (fun hc => by rcases hc with hc | hc <;> exact absurd hc (by decide)) (fun hc => absurd hc (by decide)) (fun _ => h2.1)).mono (by omega), h.good, by have := h.ln; show s.l.length + s.m.ats.length ≤ _; omega⟩
    · rw [if_neg h2] at he ⊢
      exact inelem_inv (s := setAt s 7) ⟨hM.at 7 (by decide) (by decide) (by decide) (by decide), h.good, h.ln⟩ he
theorem beginattr_inv (h : AInv s n) (he : (beginAttrA s b).e = 0) : AInv (beginAttrA s b).b (n + 2) := by
  unfold beginAttrA at he ⊢
  split
  · rename_i hc; rw [if_pos hc] at he; exact endattrs_inv h he
  · rename_i hc; rw [if_neg hc] at he; exact inattr_inv (s := setAt s 10) ⟨h.m.at 10 (by decide) (by decide) (by decide) (by decide), h.good, h.ln⟩ he
theorem entname_inv (h : AInv s n) (he : (entNameA s.m b).e = 0) : AInv (s.mr (entNameA s.m b)).b (n + 2) := by
  have hM := h.m
  unfold entNameA at he ⊢
  by_cases h1 : goesN s.m.ent b = true
  · rw [if_pos h1] at he ⊢
    by_cases h2 : 16 ≤ s.m.ent.length
    · rw [if_pos h2] at he; exact absurd he (nz (by decide))
    · rw [if_neg h2]
      exact h.mr (r := ⟨{ s.m with ent := s.m.ent ++ [b] }, 0⟩) { hM with ent := (by show (s.m.ent ++ [b]).length ≤ 16; rw [List.length_append, List.length_singleton]; omega) } rfl
  · rw [if_neg h1] at he ⊢
    by_cases h2 : s.m.ent = []
    · rw [if_pos h2] at he; exact absurd he (nz (by decide))
    · rw [if_neg h2] at he ⊢
      have hm := must_m he
      refine h.mr ?_ (by rw [hm])
      rw [hm]
      exact ({ hM with ent := (by show ([] : List UInt8).length ≤ 16; decide), nmd := hM.ent } : MInv { s.m with nmd := s.m.ent, ent := [] } n).at 4 (by decide) (by decide) (by decide) (by decide)
theorem attrtext_inv (h : AInv s n) (ha : s.m.a = 13) (he : (attrTextA s.m b).e = 0) : AInv (s.mr (attrTextA s.m b)).b (n + 2) := by
  have hM := h.m
  unfold attrTextA at he ⊢
  by_cases h1 : endedA s.m b 34 = true
  · rw [if_pos h1]
    have hl := hM.al2 (.inr ha)
    refine ⟨MInv.mono (n := n) { hM.at 8 (by decide) (by decide) (by decide) (by decide) with rt := (by show ([] : List UInt8).length ≤ 48; decide), al := ?_, al2 := fun hc => (by rcases hc with hc | hc; exact absurd (show (8 : Int) = 12 from hc) (by decide); exact absurd (show (8 : Int) = 13 from hc) (by decide)), aok := ?_ } (by omega), h.good, ?_⟩
    · show (s.m.ats ++ [(s.m.an, s.m.rt)]).length ≤ 20
      rw [List.length_append, List.length_singleton]; omega
    · intro a ha
      rcases List.mem_append.1 (show a ∈ s.m.ats ++ [(s.m.an, s.m.rt)] from ha) with ha | ha
      · exact hM.aok a ha
      · rw [List.mem_singleton] at ha; rw [ha]; exact ⟨hM.anp, hM.anl, hM.rt⟩
    · have := h.ln
      show s.l.length + (s.m.ats ++ [(s.m.an, s.m.rt)]).length ≤ _
      rw [List.length_append, List.length_singleton]; omega
  · rw [if_neg h1] at he ⊢
    exact h.mr (minv_add hM he) add_ats
theorem content_inv (h : AInv s n) (he : (contentA s b).e = 0) : AInv (contentA s b).b (n + 2) := by
  have hM := h.m
  unfold contentA at he ⊢
  by_cases h1 : endedA s.m b 60 = false
  · rw [if_pos h1] at he ⊢; exact h.mr (minv_add hM he) add_ats
  · rw [if_neg h1] at he ⊢
    by_cases h2 : s.m.rt = []
    · rw [if_pos h2]; exact h.setA 1 (by decide) (by decide) (by decide) (by decide)
    · rw [if_neg h2]
      have hl := tellL_len s.st s.l ⟨4, bs s.m.rt, ⟨#[]⟩⟩
      refine ⟨MInv.mono (n := n) ({ hM.at 1 (by decide) (by decide) (by decide) (by decide) with rt := (by show ([] : List UInt8).length ≤ 48; decide) } : MInv { s.m with a := 1, rt := [] } n) (by omega), good_step h.good _, ?_⟩
      have := h.ln
      show (tellL s.st s.l ⟨4, bs s.m.rt, ⟨#[]⟩⟩).length + s.m.ats.length ≤ _
      omega
theorem must_inv (h : AInv s n) {c : Nat} {a : Int} (h0 : 0 ≤ a ∧ a ≤ 18) (h1 : (a = 12 ∨ a = 13) → s.m.ats.length ≤ 19) (h2 : a ≠ 2) (h3 : a ≠ 14 ∧ a ≠ 16 ∧ a ≠ 17) (he : (mustA s.m b c a).e = 0) : AInv (s.mr (mustA s.m b c a)).b (n + 2) := by
  have hm := must_m he
  refine h.mr ?_ (by rw [hm])
  rw [hm]
  exact { h.m with a0 := h0, al2 := h1, rs := fun hc => absurd hc h2, opn := fun hc => (by rcases hc with hc | hc | hc; exact absurd hc h3.1; exact absurd hc h3.2.1; exact absurd hc h3.2.2) }
theorem ainv_step (h : AInv s n) (he : (stepA s b).e = 0) : AInv (stepA s b).b (n + 2) := by
  have hM := h.m
  unfold stepA at he ⊢
  by_cases hs : blankB b = true ∧ skipsA s.m.a = true
  · rw [if_pos hs]; exact h.mono (by omega)
  rw [if_neg hs] at he ⊢
  by_cases h0 : s.m.a = 0
  · rw [if_pos h0] at he ⊢; exact must_inv h (by decide) (fun hc => absurd hc (by decide)) (by decide) (by decide) he
  rw [if_neg h0] at he ⊢
  by_cases h1 : s.m.a = 1
  · rw [if_pos h1] at he ⊢; exact begin_inv h he
  rw [if_neg h1] at he ⊢
  by_cases h2 : s.m.a = 2
  · rw [if_pos h2] at he ⊢; exact marked_inv h ⟨h2, hM.rs h2⟩ he
  rw [if_neg h2] at he ⊢
  by_cases h3 : s.m.a = 3
  · rw [if_pos h3] at he ⊢; exact entname_inv h he
  rw [if_neg h3] at he ⊢
  by_cases h4 : s.m.a = 4
  · rw [if_pos h4] at he ⊢; exact must_inv h (by decide) (fun hc => absurd hc (by decide)) (by decide) (by decide) he
  rw [if_neg h4] at he ⊢
  by_cases h5 : s.m.a = 5
  · rw [if_pos h5] at he ⊢
    unfold entTextA at he ⊢
    by_cases h6 : endedA s.m b 34 = true
    · rw [if_pos h6]; exact h.setA 6 (by decide) (by decide) (by decide) (by decide)
    · rw [if_neg h6] at he ⊢; exact h.mr (minv_add hM he) add_ats
  rw [if_neg h5] at he ⊢
  by_cases h6 : s.m.a = 6
  · rw [if_pos h6] at he ⊢
    unfold defineA at he ⊢
    by_cases h7 : b.toNat ≠ 62
    · rw [if_pos h7] at he; exact absurd he (show ¬ (2 : Int) = 0 by decide)
    · rw [if_neg h7]
      exact h.mr (r := ⟨{ s.m with a := 0, rt := [], L := defE s.m.L s.m.nmd s.m.rt }, defC s.m.L s.m.nmd s.m.rt⟩) ({ hM.at 0 (by decide) (by decide) (by decide) (by decide) with rt := (by simp) } : MInv { s.m with a := 0, rt := [], L := defE s.m.L s.m.nmd s.m.rt } n) rfl
  rw [if_neg h6] at he ⊢
  by_cases h7 : s.m.a = 7
  · rw [if_pos h7] at he ⊢; exact inelem_inv h he
  rw [if_neg h7] at he ⊢
  by_cases h8 : s.m.a = 8
  · rw [if_pos h8] at he ⊢; exact behind_inv h he
  rw [if_neg h8] at he ⊢
  by_cases h9 : s.m.a = 9
  · rw [if_pos h9] at he ⊢; exact beginattr_inv h he
  rw [if_neg h9] at he ⊢
  by_cases h10 : s.m.a = 10
  · rw [if_pos h10] at he ⊢; exact inattr_inv h he
  rw [if_neg h10] at he ⊢
  by_cases h11 : s.m.a = 11
  · rw [if_pos h11] at he ⊢; exact equals_inv h he
  rw [if_neg h11] at he ⊢
  by_cases h12 : s.m.a = 12
  · rw [if_pos h12] at he ⊢; exact must_inv h (by decide) (fun _ => hM.al2 (.inl h12)) (by decide) (by decide) he
  rw [if_neg h12] at he ⊢
  by_cases h13 : s.m.a = 13
  · rw [if_pos h13] at he ⊢; exact attrtext_inv h h13 he
  rw [if_neg h13] at he ⊢
  by_cases h14 : s.m.a = 14
  · rw [if_pos h14] at he ⊢
    unfold endEmptyA at he ⊢
    by_cases h15 : b.toNat ≠ 62
    · rw [if_pos h15] at he; exact absurd he (nzA (by decide))
    · rw [if_neg h15]; exact endelem_inv h
  rw [if_neg h14] at he ⊢
  by_cases h15 : s.m.a = 15
  · rw [if_pos h15] at he ⊢; exact content_inv h he
  rw [if_neg h15] at he ⊢
  by_cases h16 : s.m.a = 16
  · rw [if_pos h16] at he ⊢; exact inend_inv h (hM.opn (.inr (.inl h16))) he
  rw [if_neg h16] at he ⊢
  by_cases h17 : s.m.a = 17
  · rw [if_pos h17] at he ⊢; exact endtag_inv h he
  rw [if_neg h17] at he
  exact absurd he (nzA (by decide))
/-- No byte tells more than a tag's attributes and one more. -/
theorem step_len (s : As) (b : UInt8) : (stepA s b).b.l.length ≤ s.l.length + 1 + s.m.ats.length := by
  have ht : ∀ (M : Ag) (x : Ev), (tellA { s with m := M } x).b.l.length ≤ s.l.length + 1 := fun M x => tellL_len _ _ _
  have ho : ∀ a, (openA (setAt s a)).b.l.length ≤ s.l.length + 1 + s.m.ats.length := fun a => open_len (setAt s a)
  have hea : ∀ (s' : As), s'.l = s.l → s'.m.ats = s.m.ats → (endAttrsA s' b).b.l.length ≤ s.l.length + 1 + s.m.ats.length := fun s' h1 h2 => by
    have ho' : ∀ a, (openA (setAt s' a)).b.l.length ≤ s'.l.length + 1 + s'.m.ats.length := fun a => open_len (setAt s' a)
    rw [h1, h2] at ho'
    unfold endAttrsA
    split
    · exact ho' 14
    · split
      · exact ho' 15
      · show s'.l.length ≤ _; rw [h1]; omega
  have hin : ∀ (s' : As), s'.l = s.l → s'.m.ats = s.m.ats → (inElem s' b).b.l.length ≤ s.l.length + 1 + s.m.ats.length := fun s' h1 h2 => by
    unfold inElem
    split
    · show s'.l.length ≤ _; rw [h1]; omega
    · split
      · show s'.l.length ≤ _; rw [h1]; omega
      · unfold behindAttrA
        split
        · show s'.l.length ≤ _; rw [h1]; omega
        · exact hea _ h1 h2
  have hia : ∀ (s' : As), s'.l = s.l → (inAttr s' b).b.l.length ≤ s.l.length + 1 + s.m.ats.length := fun s' h1 => by
    unfold inAttr
    split
    · show s'.l.length ≤ _; rw [h1]; omega
    · split
      · show s'.l.length ≤ _; rw [h1]; omega
      · show s'.l.length ≤ _; rw [h1]; omega
  have het : ∀ (M : Ag), (endTagA { s with m := M } b).b.l.length ≤ s.l.length + 1 + s.m.ats.length := fun M => by
    unfold endTagA
    split
    · show s.l.length ≤ _; omega
    · split
      · show s.l.length ≤ _; omega
      · unfold endElemA
        have := ht (closedA M) (bare 12)
        show (tellA { s with m := closedA M } (bare 12)).b.l.length ≤ _
        omega
  unfold stepA
  by_cases hs : blankB b = true ∧ skipsA s.m.a = true
  · rw [if_pos hs]; show s.l.length ≤ _; omega
  rw [if_neg hs]
  by_cases h0 : s.m.a = 0
  · rw [if_pos h0]
    show s.l.length ≤ _; omega
  rw [if_neg h0]
  by_cases h1 : s.m.a = 1
  · rw [if_pos h1]
    unfold beginA
    by_cases q1 : s.m.op = [] ∧ b.toNat = 33
    · rw [if_pos q1]; show s.l.length ≤ _; omega
    · rw [if_neg q1]
      by_cases q2 : s.m.op ≠ [] ∧ b.toNat = 47
      · rw [if_pos q2]; show s.l.length ≤ _; omega
      · rw [if_neg q2]; exact hin (setAt s 7) rfl rfl
  rw [if_neg h1]
  by_cases h2 : s.m.a = 2
  · rw [if_pos h2]
    show s.l.length ≤ _; omega
  rw [if_neg h2]
  by_cases h3 : s.m.a = 3
  · rw [if_pos h3]
    show s.l.length ≤ _; omega
  rw [if_neg h3]
  by_cases h4 : s.m.a = 4
  · rw [if_pos h4]
    show s.l.length ≤ _; omega
  rw [if_neg h4]
  by_cases h5 : s.m.a = 5
  · rw [if_pos h5]
    show s.l.length ≤ _; omega
  rw [if_neg h5]
  by_cases h6 : s.m.a = 6
  · rw [if_pos h6]
    show s.l.length ≤ _; omega
  rw [if_neg h6]
  by_cases h7 : s.m.a = 7
  · rw [if_pos h7]
    exact hin s rfl rfl
  rw [if_neg h7]
  by_cases h8 : s.m.a = 8
  · rw [if_pos h8]
    unfold behindAttrA
    by_cases q1 : blankB b = true
    · rw [if_pos q1]; show s.l.length ≤ _; omega
    · rw [if_neg q1]; exact hea s rfl rfl
  rw [if_neg h8]
  by_cases h9 : s.m.a = 9
  · rw [if_pos h9]
    unfold beginAttrA
    by_cases q1 : b.toNat = 47 ∨ b.toNat = 62
    · rw [if_pos q1]; exact hea s rfl rfl
    · rw [if_neg q1]; exact hia (setAt s 10) rfl
  rw [if_neg h9]
  by_cases h10 : s.m.a = 10
  · rw [if_pos h10]
    exact hia s rfl
  rw [if_neg h10]
  by_cases h11 : s.m.a = 11
  · rw [if_pos h11]
    show s.l.length ≤ _; omega
  rw [if_neg h11]
  by_cases h12 : s.m.a = 12
  · rw [if_pos h12]
    show s.l.length ≤ _; omega
  rw [if_neg h12]
  by_cases h13 : s.m.a = 13
  · rw [if_pos h13]
    show s.l.length ≤ _; omega
  rw [if_neg h13]
  by_cases h14 : s.m.a = 14
  · rw [if_pos h14]
    unfold endEmptyA
    by_cases q1 : b.toNat ≠ 62
    · rw [if_pos q1]; show s.l.length ≤ _; omega
    · rw [if_neg q1]
      unfold endElemA
      have := ht (closedA s.m) (bare 12)
      omega
  rw [if_neg h14]
  by_cases h15 : s.m.a = 15
  · rw [if_pos h15]
    unfold contentA
    by_cases q1 : endedA s.m b 60 = false
    · rw [if_pos q1]; show s.l.length ≤ _; omega
    · rw [if_neg q1]
      by_cases q2 : s.m.rt = []
      · rw [if_pos q2]; show s.l.length ≤ _; omega
      · rw [if_neg q2]
        have := ht { s.m with a := 1, rt := [] } ⟨4, bs s.m.rt, ⟨#[]⟩⟩
        omega
  rw [if_neg h15]
  by_cases h16 : s.m.a = 16
  · rw [if_pos h16]
    unfold inEnd
    by_cases q1 : goesA s.m b = true
    · rw [if_pos q1]; show s.l.length ≤ _; omega
    · rw [if_neg q1]
      by_cases q2 : s.m.nt = []
      · rw [if_pos q2]; show s.l.length ≤ _; omega
      · rw [if_neg q2]
        unfold atEnd
        by_cases q3 : blankB b = true
        · rw [if_pos q3]; show s.l.length ≤ _; omega
        · rw [if_neg q3]; exact het _
  rw [if_neg h16]
  by_cases h17 : s.m.a = 17
  · rw [if_pos h17]
    exact het s.m
  rw [if_neg h17]
  show s.l.length ≤ _; omega
end
end Go.Proofs.YtjepnddndpmnnaaGreat
