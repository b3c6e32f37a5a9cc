/-
  sections: what a line, and the end of the text, do to what is known: how many events, how deep, the path. No contract of a call is stated here.
-/
import Derived.Test.YtalkjgijmceifaaGreatDoorSwA36
namespace Go.Proofs.YtalkjgijmceifaaGreatDoor
set_option maxRecDepth 100000
set_option linter.unusedSimpArgs false
set_option linter.unusedVariables false
set_option linter.unusedSectionVars false
variable [Tab] [Fo]

section
variable {S : List UInt8}
/-- What every telling keeps, a value keeps. -/
def Prs (K : Sx → Prop) (f : Nat → Sx → Option (Nat × Sx)) : Prop := ∀ a x a' x', f a x = some (a', x') → K x → K x'
theorem last_prs {K : Sx → Prop} (hK : ∀ {x e x'}, tellX x e = some x' → K x → K x') {a : Nat} {x : Sx} {e : Ev} {a' : Nat} {x' : Sx} (h : lastM secM a x e = some (a', x')) (hk : K x) : K x' := hK (lastM_some h).2 hk
theorem loop_prs {K : Sx → Prop} {b : UInt8} {p : Nat → Sx → Option (Nat × Sx)} (hp : Prs K p) : ∀ (n a : Nat) (x : Sx) (a' : Nat) (x' : Sx), pLoop S b p n a x = some (a', x') → K x → K x'
  | 0, _, _, _, _, h, _ => by cases h
  | n + 1, a, x, a', x', h, hk => by
    rw [pLoop] at h
    split at h
    · cases hq : p (blk S (a + 1)) x with
      | none => rw [hq] at h; cases h
      | some q =>
        obtain ⟨a2, x2⟩ := q
        rw [hq] at h
        exact loop_prs hp n _ x2 a' x' h (hp _ _ _ _ hq hk)
    · split at h
      · cases h; exact hk
      · cases h
theorem parts_prs {K : Sx → Prop} {b : UInt8} {p : Nat → Sx → Option (Nat × Sx)} (hp : Prs K p) {a : Nat} {x : Sx} {a' : Nat} {x' : Sx} (h : partsG S b p a x = some (a', x')) (hk : K x) : K x' := by
  unfold partsG at h
  split at h
  · cases h; exact hk
  · cases hq : p (blk S a) x with
    | none => rw [hq] at h; cases h
    | some q =>
      obtain ⟨a2, x2⟩ := q
      rw [hq] at h
      exact loop_prs hp _ _ x2 a' x' h (hp _ _ _ _ hq hk)
theorem value_prs {K : Sx → Prop} (hK : ∀ {x e x'}, tellX x e = some x' → K x → K x') {val fld : Nat → Sx → Option (Nat × Sx)} (hv : Prs K val) (hf : Prs K fld) : Prs K (valueG secM S val fld) := by
  intro a x a' x' h hk
  unfold valueG at h
  have two : ∀ (b2 : UInt8) (e1 e2 : Ev) (p : Nat → Sx → Option (Nat × Sx)), Prs K p → ((secM.tell x e1).bind fun x1 => (partsG S b2 p (a + 1) x1).bind fun q => lastM secM q.1 q.2 e2) = some (a', x') → K x' := by
    intro b2 e1 e2 p hp h
    cases ht : tellX x e1 with
    | none => rw [show secM.tell x e1 = none from ht] at h; cases h
    | some x1 =>
      rw [show secM.tell x e1 = some x1 from ht] at h
      have h' : ((partsG S b2 p (a + 1) x1).bind fun q => lastM secM q.1 q.2 e2) = some (a', x') := h
      cases hq : partsG S b2 p (a + 1) x1 with
      | none => rw [hq] at h'; cases h'
      | some q =>
        obtain ⟨a2, x2⟩ := q
        rw [hq] at h'
        exact last_prs hK (show lastM secM a2 x2 e2 = some (a', x') from h') (parts_prs hp hq (hK ht hk))
  split at h
  · exact two 93 _ _ val hv h
  · split at h
    · exact two 125 _ _ fld hf h
    · split at h
      · cases hq : quoP S a with
        | none => rw [hq] at h; cases h
        | some q => rw [hq] at h; exact last_prs hK h hk
      · split at h
        · cases hq : wordP S trueL a with
          | none => rw [hq] at h; cases h
          | some q => rw [hq] at h; exact last_prs hK h hk
        · split at h
          · cases hq : wordP S falseL a with
            | none => rw [hq] at h; cases h
            | some q => rw [hq] at h; exact last_prs hK h hk
          · cases hq : numP S a with
            | none => rw [hq] at h; cases h
            | some q => rw [hq] at h; exact last_prs hK h hk
theorem setTo_prs {K : Sx → Prop} {v : Nat → Sx → Option (Nat × Sx)} (hv : Prs K v) : Prs K (setToS S v) := by
  intro a x a' x' h hk
  unfold setToS at h
  cases he : eatB S a 61 with
  | none => rw [he] at h; cases h
  | some a1 => rw [he] at h; exact hv _ _ _ _ h hk
theorem fld_prs {K : Sx → Prop} (hK : ∀ {x e x'}, tellX x e = some x' → K x → K x') {v : Nat → Sx → Option (Nat × Sx)} (hv : Prs K v) : Prs K (fldS S v) := by
  intro a x a' x' h hk
  unfold fldS at h
  cases hq : keyP S a with
  | none => rw [hq] at h; cases h
  | some q =>
    obtain ⟨t, a1⟩ := q
    rw [hq] at h
    have h' : ((lastM secM a1 x (evT 8 t)).bind fun p => setToS S v (blk S p.1) p.2) = some (a', x') := h
    cases hl : lastM secM a1 x (evT 8 t) with
    | none => rw [hl] at h'; cases h'
    | some q2 =>
      obtain ⟨a2, x2⟩ := q2
      rw [hl] at h'
      exact setTo_prs hv _ _ _ _ h' (last_prs hK hl hk)
theorem val_prs {K : Sx → Prop} (hK : ∀ {x e x'}, tellX x e = some x' → K x → K x') : ∀ n, Prs K (valS S n)
  | 0 => fun _ _ _ _ h => by cases h
  | n + 1 => value_prs hK (val_prs hK n) (fld_prs hK (val_prs hK n))
theorem enter_facts {ks : List ByteArray} {row : Bool} (hks : ∀ k ∈ ks, k.size ≤ 1000) (h0 : 0 < ks.length) {x y : Sx} (h : enterS ks row x = some y) (hk : TkS x) : y.l.length ≤ x.l.length + 70 ∧ y.bs = x.bs ∧ depX y = depX x := by
  unfold enterS at h
  cases h1 : moveS ks.dropLast x with
  | none => rw [h1] at h; cases h
  | some z =>
    rw [h1] at h
    obtain ⟨a1, _, a3, _, a5, a6⟩ := moveS_facts (fun k hk => hks k ((List.dropLast_sublist ks).subset hk)) h1 hk
    obtain ⟨b1, b2, b3, b4, b5, b6⟩ := openS_facts (s := (lastK ks, row)) (lastK_sz hks h0) h
    have := a6.st7
    have := (b6 a6).st7
    exact ⟨by omega, by rw [b3, a3], by rw [b5, a5]⟩
theorem nextRow_facts {keep : Nat} {x y : Sx} (h : nextRowS keep x = some y) (hk : TkS x) : y.l.length ≤ x.l.length + 20 ∧ y.bs = x.bs ∧ depX y = depX x := by
  unfold nextRowS at h
  cases h1 : shutK keep x with
  | none => rw [h1] at h; cases h
  | some z =>
    rw [h1] at h
    obtain ⟨a1, a2, a3, a4, a5⟩ := shutK_lens keep h1
    have h' : ((tellX z (evB 9)).bind fun x2 => tellX x2 (evB 7)) = some y := h
    cases h2 : tellX z (evB 9) with
    | none => rw [h2] at h'; cases h'
    | some u =>
      rw [h2] at h'
      have h3 : tellX u (evB 7) = some y := h'
      obtain ⟨b1, b2, b3, b4, b5⟩ := tell_len h2
      obtain ⟨c1, c2, c3, c4, c5⟩ := tell_len h3
      have b2' : (u.st.length : Int) = z.st.length - 1 := by rw [b2]; show _ + dK 9 = _; rw [dK_9]; omega
      have c2' : (y.st.length : Int) = u.st.length + 1 := by rw [c2]; show _ + dK 7 = _; rw [dK_7]
      have := hk.st7
      refine ⟨by omega, by rw [c5, b5, a2], ?_⟩
      rw [← a4]
      unfold depX
      rw [c4, b4, c3, b3]
      omega
/-- What one line does. -/
theorem line_facts (hS : S.length ≤ 160) {x y : Sx} (h : lineS S x = some y) (hk : TkS x) (hb : BsOk x) : y.l.length ≤ x.l.length + 500 ∧ depX y = depX x ∧ BsOk y := by
  unfold lineS at h
  split at h
  · cases h; exact ⟨by omega, rfl, hb⟩
  · cases hq : (if isB S (blk S 0) 91 = true then headerS S (blk S 0) x else assignS S (blk S 0) x) with
    | none => rw [hq] at h; cases h
    | some q =>
      obtain ⟨a', z⟩ := q
      rw [hq] at h
      have h' : ((finB S a').map fun _ => z) = some y := h
      have hzy : z = y := by
        cases hf : finB S a' with
        | none => rw [hf] at h'; cases h'
        | some _ => rw [hf] at h'; exact Option.some.inj h'
      subst hzy
      clear h h'
      split at hq
      · rename_i hbr
        unfold headerS at hq
        cases he : eatB S (blk S 0) 91 with
        | none => rw [he] at hq; cases hq
        | some a1 =>
          rw [he] at hq
          obtain ⟨ha1, hal⟩ := eatB_some he
          have hq' : ((pathP S (if isB S a1 91 = true then a1 + 1 else a1)).bind fun q => headTo S (isB S a1 91) q.1 q.2 x) = some (a', z) := hq
          obtain ⟨row, hrow⟩ : ∃ row, isB S a1 91 = row := ⟨_, rfl⟩
          have hst : (if row = true then a1 + 1 else a1) ≤ S.length := by
            split
            · rename_i hr; rw [hr] at hrow; exact isB_true hrow
            · omega
          rw [hrow] at hq'
          cases hp : pathP S (if row = true then a1 + 1 else a1) with
          | none => rw [hp] at hq'; cases hq'
          | some q =>
            obtain ⟨ks, a2⟩ := q
            rw [hp] at hq'
            obtain ⟨p1, p2, p3, p4, p5⟩ := path_fa hst hp
            have hh : headTo S row ks a2 x = some (a', z) := hq'
            unfold headTo at hh
            cases hm : meetB S a2 93 with
            | none => rw [hm] at hh; cases hh
            | some a3 =>
              rw [hm] at hh
              have hh2 : ((beginS { x with bs := ks }).bind fun x2 => (if (row && inRowS x2.pos ks) = true then nextRowS ks.length x2 else enterS ks row x2).bind fun x3 => (if row = true then eatB S (a3 + 1) 93 else some (a3 + 1)).map fun a5 => (a5, x3)) = some (a', z) := hh
              cases hbg : beginS { x with bs := ks } with
              | none => rw [hbg] at hh2; cases hh2
              | some u =>
                rw [hbg] at hh2
                obtain ⟨g1, g2, g3, g4, g5, g6⟩ := begin_facts hbg
                have hu : TkS u := g6 (hk.of rfl rfl)
                have hh3 : ((if (row && inRowS u.pos ks) = true then nextRowS ks.length u else enterS ks row u).bind fun x3 => (if row = true then eatB S (a3 + 1) 93 else some (a3 + 1)).map fun a5 => (a5, x3)) = some (a', z) := hh2
                cases hv : (if (row && inRowS u.pos ks) = true then nextRowS ks.length u else enterS ks row u) with
                | none => rw [hv] at hh3; cases hh3
                | some v =>
                  rw [hv] at hh3
                  have hvz : v = z := by
                    have hh4 : (if row = true then eatB S (a3 + 1) 93 else some (a3 + 1)).map (fun a5 => (a5, v)) = some (a', z) := hh3
                    cases hx : (if row = true then eatB S (a3 + 1) 93 else some (a3 + 1)) with
                    | none => rw [hx] at hh4; cases hh4
                    | some a5 => rw [hx] at hh4; have := Option.some.inj hh4; injection this
                  subst hvz
                  have hf : v.l.length ≤ u.l.length + 70 ∧ v.bs = u.bs ∧ depX v = depX u := by
                    split at hv
                    · obtain ⟨f1, f2, f3⟩ := nextRow_facts hv hu
                      exact ⟨by omega, f2, f3⟩
                    · exact enter_facts p3 p1 hv hu
                  have g1' : u.l.length ≤ x.l.length + 1 := g1
                  refine ⟨by omega, ?_, ?_⟩
                  · rw [hf.2.2, g5]; rfl
                  · have e : v.bs = ks := by rw [hf.2.1, g3]
                    exact ⟨by rw [e]; omega, by rw [e]; exact p3⟩
      · unfold assignS at hq
        cases hp : pathP S (blk S 0) with
        | none => rw [hp] at hq; cases hq
        | some q =>
          obtain ⟨ks, a1⟩ := q
          rw [hp] at hq
          obtain ⟨p1, p2, p3, p4, p5⟩ := path_fa (blk_le (Nat.zero_le _)) hp
          have h1 : ((meetB S (blk S a1) 61).bind fun a2 => (beginS x).bind fun x1 => (moveS (x.bs ++ ks).dropLast x1).bind fun x2 => (tellX x2 (evT 8 (lastK (x.bs ++ ks)))).bind fun x3 => setToS S (valS S (S.length + 1)) a2 x3) = some (a', z) := hq
          cases hm : meetB S (blk S a1) 61 with
          | none => rw [hm] at h1; cases h1
          | some a2 =>
            rw [hm] at h1
            have h2 : ((beginS x).bind fun x1 => (moveS (x.bs ++ ks).dropLast x1).bind fun x2 => (tellX x2 (evT 8 (lastK (x.bs ++ ks)))).bind fun x3 => setToS S (valS S (S.length + 1)) a2 x3) = some (a', z) := h1
            cases hbg : beginS x with
            | none => rw [hbg] at h2; cases h2
            | some u =>
              rw [hbg] at h2
              obtain ⟨g1, g2, g3, g4, g5, g6⟩ := begin_facts hbg
              have h3 : ((moveS (x.bs ++ ks).dropLast u).bind fun x2 => (tellX x2 (evT 8 (lastK (x.bs ++ ks)))).bind fun x3 => setToS S (valS S (S.length + 1)) a2 x3) = some (a', z) := h2
              have hpth : ∀ k ∈ (x.bs ++ ks).dropLast, k.size ≤ 1000 := fun k hk => by
                rcases List.mem_append.1 ((List.dropLast_sublist _).subset hk) with hk | hk
                · exact hb.2 k hk
                · exact p3 k hk
              cases hv : moveS (x.bs ++ ks).dropLast u with
              | none => rw [hv] at h3; cases h3
              | some v =>
                rw [hv] at h3
                obtain ⟨m1, m2, m3, m4, m5, m6⟩ := moveS_facts hpth hv (g6 hk)
                have h4 : ((tellX v (evT 8 (lastK (x.bs ++ ks)))).bind fun x3 => setToS S (valS S (S.length + 1)) a2 x3) = some (a', z) := h3
                cases ht : tellX v (evT 8 (lastK (x.bs ++ ks))) with
                | none => rw [ht] at h4; cases h4
                | some t =>
                  rw [ht] at h4
                  have h5 : setToS S (valS S (S.length + 1)) a2 t = some (a', z) := h4
                  obtain ⟨s1, s2, s3, s4⟩ := setTo_fa (val_fa _) _ _ _ _ h5
                  have hbs : z.bs = t.bs := setTo_prs (K := fun y => y.bs = t.bs) (val_prs (fun {x e x'} ht hk => by obtain ⟨_, _, _, _, k5⟩ := tell_len ht; rw [k5]; exact hk) _) _ _ _ _ h5 rfl
                  obtain ⟨t1, t2, t3, t4, t5⟩ := tell_len ht
                  have s3' : z.l.length ≤ t.l.length + 2 * (a' - a2) := s3
                  have s4' : depX z = depX t := s4
                  have htd : depX t = depX v := by
                    have := secM.td (x := v) (e := evT 8 (lastK (x.bs ++ ks))) (x' := t) ht
                    have e : dK (evT 8 (lastK (x.bs ++ ks))).k = 0 := dK_8
                    rw [e] at this
                    have this' : depX t = depX v + 0 := this
                    omega
                  refine ⟨by omega, by rw [s4', htd, m5, g5], ?_⟩
                  have e : z.bs = x.bs := by rw [hbs, t5, m3, g3]
                  exact ⟨by rw [e]; exact hb.1, by rw [e]; exact hb.2⟩
theorem pos_le : ∀ (l : List (ByteArray × Bool)), (l.length : Int) ≤ wtP l
  | [] => by simp [wtP]
  | s :: r => by
    have := pos_le r
    rw [wtP, List.length_cons]
    split <;> omega
theorem pos6 {x : Sx} (hd : depX x = 1) (hk : TkS x) : x.pos.length ≤ 6 := by
  have := hk.st7
  have := pos_le x.pos
  unfold depX at hd
  split at hd <;> omega
/-- The end of a text makes a document. -/
theorem fin_done {x y : Sx} (h : finX x = some y) (hd : depX x = 1) (hk : TkS x) : doneB y.st = true := by
  unfold finX at h
  cases h1 : beginS x with
  | none => rw [h1] at h; cases h
  | some u =>
    rw [h1] at h
    obtain ⟨g1, g2, g3, g4, g5, g6⟩ := begin_facts h1
    have h2 : ((shutK 0 u).bind fun x2 => tellX x2 (evB 9)) = some y := h
    cases h3 : shutK 0 u with
    | none => rw [h3] at h2; cases h2
    | some v =>
      rw [h3] at h2
      obtain ⟨a1, a2, a3, a4, a5, a6, a7, a8⟩ := shutS_facts 0 _ u v h3
      have h4 : tellX v (evB 9) = some y := h2
      have hp : v.pos.length = 0 := a8 (Nat.le_refl _) (Nat.zero_le _)
      have hpn : v.pos = [] := List.length_eq_zero_iff.1 hp
      have hdv : depX v = 1 := by rw [a4, g5, hd]
      have hv : TkS v := a6 (g6 hk)
      have hvl : v.st.length = 2 := by
        unfold depX at hdv
        rw [hpn, a3, g4] at hdv
        simp [wtP] at hdv
        omega
      obtain ⟨t1, t2⟩ := tellX_some h4
      obtain ⟨e1, e2⟩ := dS_end hv.good t1 (.inr rfl)
      have hyl : y.st.length = 1 := by rw [t2]; show (stepS v.st (evB 9)).length = 1; omega
      refine done_1 hyl fun p r hpr => ?_
      rw [t2] at hpr
      exact e2 p r hpr
end
end Go.Proofs.YtalkjgijmceifaaGreatDoor
