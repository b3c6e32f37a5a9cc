/-
  outline: what a line, and the end of the text, do to what is known: how many events, how deep (pure).
  outline: what a line, and the end of the text, do to what is known between the lines (pure).
-/
import Derived.Test.YtalkjgijmceifaaGreatDoorOwA37
namespace Go.Proofs.YtalkjgijmceifaaGreatDoor
set_option maxRecDepth 100000
set_option linter.unusedSimpArgs false
set_option linter.unusedVariables false
set_option linter.unusedSectionVars false
set_option linter.unusedSectionVars false
variable [Tab] [Fo]

section
variable {S : List UInt8}
/-- What every telling keeps, a value keeps. -/
def PrsO (K : Ox → Prop) (f : Nat → Ox → Option (Nat × Ox)) : Prop := ∀ a x a' x', f a x = some (a', x') → K x → K x'
theorem olast_prs {K : Ox → Prop} (hK : ∀ {x e x'}, tellO x e = some x' → K x → K x') {a : Nat} {x : Ox} {e : Ev} {a' : Nat} {x' : Ox} (h : lastM olM a x e = some (a', x')) (hk : K x) : K x' := hK (lastM_some h).2 hk
theorem oloop_prs {K : Ox → Prop} {b : UInt8} {p : Nat → Ox → Option (Nat × Ox)} (hp : PrsO K p) : ∀ (n a : Nat) (x : Ox) (a' : Nat) (x' : Ox), pLoop S b p n a x = some (a', x') → K x → K x'
  | 0, _, _, _, _, h, _ => by cases h
  | n + 1, a, x, a', x', h, hk => by
    rw [pLoop] at h
    split at h
    · cases hq : p (blk S (a + 1)) x with
      | none => rw [hq] at h; cases h
      | some q =>
        obtain ⟨a2, x2⟩ := q
        rw [hq] at h
        exact oloop_prs hp n _ x2 a' x' h (hp _ _ _ _ hq hk)
    · split at h
      · cases h; exact hk
      · cases h
theorem oparts_prs {K : Ox → Prop} {b : UInt8} {p : Nat → Ox → Option (Nat × Ox)} (hp : PrsO K p) {a : Nat} {x : Ox} {a' : Nat} {x' : Ox} (h : partsG S b p a x = some (a', x')) (hk : K x) : K x' := by
  unfold partsG at h
  split at h
  · cases h; exact hk
  · cases hq : p (blk S a) x with
    | none => rw [hq] at h; cases h
    | some q =>
      obtain ⟨a2, x2⟩ := q
      rw [hq] at h
      exact oloop_prs hp _ _ x2 a' x' h (hp _ _ _ _ hq hk)
theorem ovalue_prs {K : Ox → Prop} (hK : ∀ {x e x'}, tellO x e = some x' → K x → K x') {val fld : Nat → Ox → Option (Nat × Ox)} (hv : PrsO K val) (hf : PrsO K fld) : PrsO K (valueG olM S val fld) := by
  intro a x a' x' h hk
  unfold valueG at h
  have two : ∀ (b2 : UInt8) (e1 e2 : Ev) (p : Nat → Ox → Option (Nat × Ox)), PrsO K p → ((olM.tell x e1).bind fun x1 => (partsG S b2 p (a + 1) x1).bind fun q => lastM olM q.1 q.2 e2) = some (a', x') → K x' := by
    intro b2 e1 e2 p hp h
    cases ht : tellO x e1 with
    | none => rw [show olM.tell x e1 = none from ht] at h; cases h
    | some x1 =>
      rw [show olM.tell x e1 = some x1 from ht] at h
      have h' : ((partsG S b2 p (a + 1) x1).bind fun q => lastM olM q.1 q.2 e2) = some (a', x') := h
      cases hq : partsG S b2 p (a + 1) x1 with
      | none => rw [hq] at h'; cases h'
      | some q =>
        obtain ⟨a2, x2⟩ := q
        rw [hq] at h'
        exact olast_prs hK (show lastM olM a2 x2 e2 = some (a', x') from h') (oparts_prs hp hq (hK ht hk))
  split at h
  · exact two 93 _ _ val hv h
  · split at h
    · exact two 125 _ _ fld hf h
    · split at h
      · cases hq : quoP S a with
        | none => rw [hq] at h; cases h
        | some q => rw [hq] at h; exact olast_prs hK h hk
      · split at h
        · cases hq : wordP S trueL a with
          | none => rw [hq] at h; cases h
          | some q => rw [hq] at h; exact olast_prs hK h hk
        · split at h
          · cases hq : wordP S falseL a with
            | none => rw [hq] at h; cases h
            | some q => rw [hq] at h; exact olast_prs hK h hk
          · cases hq : numP S a with
            | none => rw [hq] at h; cases h
            | some q => rw [hq] at h; exact olast_prs hK h hk
/-- What no telling changes. -/
def KbE (b : List Int) (e : Bool) (y : Ox) : Prop := y.bk = b ∧ y.en = e
theorem kbe_tell {b : List Int} {e : Bool} {x : Ox} {ev : Ev} {x' : Ox} (ht : tellO x ev = some x') (hk : KbE b e x) : KbE b e x' := by
  obtain ⟨_, _, k3, _, k5, _⟩ := tellO_len ht
  exact ⟨k3.trans hk.1, k5.trans hk.2⟩
theorem kbe_tells {b : List Int} {e : Bool} : ∀ (l : List Ev) {x y : Ox}, tellsO l x = some y → KbE b e x → KbE b e y := fun l x y h hk => by
  obtain ⟨_, _, k3, _, k5⟩ := tells_fa l h
  exact ⟨k3.trans hk.1, k5.trans hk.2⟩
theorem val_kbe {b : List Int} {e : Bool} : ∀ n, PrsO (KbE b e) (valO S n)
  | 0 => fun _ _ _ _ h => by cases h
  | n + 1 => by
    intro a x a' x' h hk
    have h' : valueO S (valO S n) a x = some (a', x') := h
    unfold valueO at h'
    split at h'
    · unfold refO at h'
      cases hn : nameP S (a + 1) with
      | none => rw [hn] at h'; cases h'
      | some q =>
        rw [hn] at h'
        have h2 : (if getE x.am q.1.data.toList = 0 ∧ dSum (getL x.am q.1.data.toList) = 0 then (tellsO (getL x.am q.1.data.toList) { x with am := getM x.am q.1.data.toList }).map fun y => (q.2 + 1, y) else none) = some (a', x') := h'
        split at h2
        · cases ht : tellsO (getL x.am q.1.data.toList) { x with am := getM x.am q.1.data.toList } with
          | none => rw [ht] at h2; cases h2
          | some y =>
            rw [ht] at h2
            have e1 : (q.2 + 1, y) = (a', x') := Option.some.inj h2
            injection e1 with _ e2
            subst e2
            exact kbe_tells _ ht hk
        · cases h2
    · split at h'
      · cases hw : wordP S nullL a with
        | none => rw [hw] at h'; cases h'
        | some a1 => rw [hw] at h'; exact olast_prs kbe_tell (show lastM olM a1 x (evB 1) = some (a', x') from h') hk
      · refine ovalue_prs kbe_tell (val_kbe n) (fun a x a' x' h hk => ?_) _ _ _ _ h' hk
        unfold fieldO at h
        cases hq : quoP S a with
        | none => rw [hq] at h; cases h
        | some q =>
          rw [hq] at h
          have h2 : ((lastM olM q.2 x (evT 8 q.1)).bind fun p => (colonO S p.1).bind fun a2 => valO S n (blk S a2) p.2) = some (a', x') := h
          cases hl : lastM olM q.2 x (evT 8 q.1) with
          | none => rw [hl] at h2; cases h2
          | some r =>
            rw [hl] at h2
            have h3 : ((colonO S r.1).bind fun a2 => valO S n (blk S a2) r.2) = some (a', x') := h2
            cases hc : colonO S r.1 with
            | none => rw [hc] at h3; cases h3
            | some a3 => rw [hc] at h3; exact val_kbe n _ _ _ _ h3 (olast_prs kbe_tell (show lastM olM q.2 x (evT 8 q.1) = some (r.1, r.2) from hl) hk)
theorem last_ne {a : Nat} {x : Ox} {e : Ev} {a' : Nat} {y : Ox} (h : lastM olM a x e = some (a', y)) : y.l ≠ [] := by
  obtain ⟨_, h2⟩ := lastM_some h
  obtain ⟨_, _, rfl⟩ := tellO_some h2
  simp
theorem tells_ne : ∀ {l : List Ev} {x y : Ox}, tellsO l x = some y → l ≠ [] → y.l ≠ []
  | [], _, _, _, h0 => absurd rfl h0
  | e :: r, x, y, h, _ => by
    rw [tellsO] at h
    cases ht : tellO x e with
    | none => rw [ht] at h; cases h
    | some z =>
      rw [ht] at h
      obtain ⟨_, _, rfl⟩ := tellO_some ht
      have hl : ∀ (l : List Ev) {x y : Ox}, tellsO l x = some y → x.l.length ≤ y.l.length := by
        intro l
        induction l with
        | nil => intro x y h; cases h; exact Nat.le_refl _
        | cons e r ih =>
          intro x y h
          rw [tellsO] at h
          cases ht : tellO x e with
          | none => rw [ht] at h; cases h
          | some z =>
            rw [ht] at h
            have h1 := (tellO_len ht).2.2.2.2.2.2
            have h2 := ih (show tellsO r z = some y from h)
            omega
      have := hl r (show tellsO r _ = some y from h)
      intro e0
      rw [e0] at this
      simp at this
theorem get_ne {s : Am} {n : List UInt8} (h : getE s n = 0) : getL s n ≠ [] := by
  unfold getL
  rw [if_pos h]
  unfold getE at h
  split at h
  · cases h
  · rename_i l hl
    rw [hl]
    split at h
    · cases h
    · rename_i hk
      intro e
      have e' : l = [] := e
      rw [e'] at hk
      exact hk rfl
theorem val_ne : ∀ n {a : Nat} {x : Ox} {a' : Nat} {y : Ox}, valO S n a x = some (a', y) → y.l ≠ []
  | 0, _, _, _, _, h => by cases h
  | n + 1, a, x, a', y, h => by
    have h' : valueO S (valO S n) a x = some (a', y) := h
    unfold valueO at h'
    split at h'
    · unfold refO at h'
      cases hn : nameP S (a + 1) with
      | none => rw [hn] at h'; cases h'
      | some q =>
        rw [hn] at h'
        have h2 : (if getE x.am q.1.data.toList = 0 ∧ dSum (getL x.am q.1.data.toList) = 0 then (tellsO (getL x.am q.1.data.toList) { x with am := getM x.am q.1.data.toList }).map fun y => (q.2 + 1, y) else none) = some (a', y) := h'
        split at h2
        · rename_i hc
          cases ht : tellsO (getL x.am q.1.data.toList) { x with am := getM x.am q.1.data.toList } with
          | none => rw [ht] at h2; cases h2
          | some z =>
            rw [ht] at h2
            have e1 : (q.2 + 1, z) = (a', y) := Option.some.inj h2
            injection e1 with _ e2
            subst e2
            exact tells_ne ht (get_ne hc.1)
        · cases h2
    · split at h'
      · cases hw : wordP S nullL a with
        | none => rw [hw] at h'; cases h'
        | some a1 => rw [hw] at h'; exact last_ne (show lastM olM a1 x (evB 1) = some (a', y) from h')
      · unfold valueG at h'
        have two : ∀ (b2 : UInt8) (e1 e2 : Ev) (p : Nat → Ox → Option (Nat × Ox)), ((olM.tell x e1).bind fun x1 => (partsG S b2 p (a + 1) x1).bind fun q => lastM olM q.1 q.2 e2) = some (a', y) → y.l ≠ [] := by
          intro b2 e1 e2 p h
          cases ht : tellO x e1 with
          | none => rw [show olM.tell x e1 = none from ht] at h; cases h
          | some x1 =>
            rw [show olM.tell x e1 = some x1 from ht] at h
            have h' : ((partsG S b2 p (a + 1) x1).bind fun q => lastM olM q.1 q.2 e2) = some (a', y) := h
            cases hq : partsG S b2 p (a + 1) x1 with
            | none => rw [hq] at h'; cases h'
            | some q => rw [hq] at h'; exact last_ne (show lastM olM q.1 q.2 e2 = some (a', y) from h')
        split at h'
        · exact two 93 _ _ _ h'
        · split at h'
          · exact two 125 _ _ _ h'
          · split at h'
            · cases hq : quoP S a with
              | none => rw [hq] at h'; cases h'
              | some q => rw [hq] at h'; exact last_ne h'
            · split at h'
              · cases hq : wordP S trueL a with
                | none => rw [hq] at h'; cases h'
                | some q => rw [hq] at h'; exact last_ne h'
              · split at h'
                · cases hq : wordP S falseL a with
                  | none => rw [hq] at h'; cases h'
                  | some q => rw [hq] at h'; exact last_ne h'
                · cases hq : numP S a with
                  | none => rw [hq] at h'; cases h'
                  | some q => rw [hq] at h'; exact last_ne h'
end
end Go.Proofs.YtalkjgijmceifaaGreatDoor
namespace Go.Proofs.YtalkjgijmceifaaGreatDoor
set_option maxRecDepth 100000
set_option linter.unusedSimpArgs false
set_option linter.unusedVariables false
set_option linter.unusedSectionVars false
set_option linter.unusedSectionVars false
variable [Tab] [Fo]

section
variable {S : List UInt8}
theorem bind_some {α β : Type} {o : Option α} {f : α → Option β} {y : β} (h : o.bind f = some y) : ∃ z, o = some z ∧ f z = some y := by
  cases o with
  | none => cases h
  | some z => exact ⟨z, rfl, h⟩
theorem map_some' {α β : Type} {o : Option α} {f : α → β} {y : β} (h : o.map f = some y) : ∃ z, o = some z ∧ f z = y := by
  cases o with
  | none => cases h
  | some z => exact ⟨z, rfl, Option.some.inj h⟩
theorem openM_told (s : Am) (n : List UInt8) : (openM s n).told = s.told := by unfold openM; split <;> rfl
theorem part_fa (hS : S.length ≤ 160) {a : Nat} {x : Ox} {a' : Nat} {y : Ox} {bb : Bool} (h : partO S a x = some (a', y, bb)) : lenO y ≤ lenO x + 320 ∧ depO y = depO x ∧ y.bk = x.bk ∧ y.en = x.en ∧ (bb = true → y.l ≠ []) := by
  unfold partO at h
  obtain ⟨⟨a1, x1⟩, h1, h2⟩ := bind_some h
  have hx1 : lenO x1 = lenO x ∧ depO x1 = depO x ∧ x1.bk = x.bk ∧ x1.en = x.en := by
    unfold ampO at h1
    split at h1
    · obtain ⟨q, hq, h3⟩ := bind_some h1
      split at h3
      · obtain ⟨a3, ha3, h4⟩ := map_some' h3
        injection h4 with _ h5
        subst h5
        exact ⟨by unfold lenO; simp only [openM_told], rfl, rfl, rfl⟩
      · cases h3
    · have e := Option.some.inj h1
      injection e with _ e2
      subst e2
      exact ⟨rfl, rfl, rfl, rfl⟩
  obtain ⟨e1, e2, e3, e4⟩ := hx1
  replace h2 : restO S a1 x1 = some (a', y, bb) := h2
  unfold restO at h2
  split at h2
  · have e := Option.some.inj h2
    injection e with _ e5
    injection e5 with e5 e6
    subst e5 e6
    exact ⟨by omega, e2, e3, e4, fun h => by cases h⟩
  · obtain ⟨⟨a2, x2⟩, h3, h4⟩ := bind_some h2
    obtain ⟨a5, _, h6⟩ := map_some' (show ((finB S a2).map fun a3 => (a3, x2, true)) = some (a', y, bb) from h4)
    injection h6 with _ h7
    injection h7 with h7 h8
    subst h7
    obtain ⟨k1, k2, k3, k4⟩ := valO_fa (S := S) _ _ _ _ _ h3
    have k3' : lenO x2 ≤ lenO x1 + 2 * (a2 - a1) := k3
    have k4' : depO x2 = depO x1 := k4
    obtain ⟨j1, j2⟩ := val_kbe (S := S) (b := x1.bk) (e := x1.en) _ _ _ _ _ h3 ⟨rfl, rfl⟩
    exact ⟨by omega, by rw [k4', e2], by rw [j1, e3], by rw [j2, e4], fun _ => val_ne _ h3⟩
theorem entry_fa (hS : S.length ≤ 160) {a : Nat} {x : Ox} {a' : Nat} {y : Ox} (h : entryO S a x = some (a', y)) : lenO y ≤ lenO x + 321 ∧ depO y = depO x ∧ y.bk = x.bk ∧ y.en = x.en := by
  unfold entryO at h
  obtain ⟨⟨a1, x1⟩, h1, h2⟩ := bind_some h
  obtain ⟨⟨a2, x2, bb⟩, h3, h4⟩ := map_some' h2
  injection h4 with _ h5
  subst h5
  obtain ⟨p1, p2, p3, p4, _⟩ := part_fa hS h3
  have hx1 : lenO x1 ≤ lenO x + 1 ∧ depO x1 = depO x ∧ x1.bk = x.bk ∧ x1.en = x.en := by
    unfold entryHead at h1
    split at h1
    · obtain ⟨a3, _, h6⟩ := map_some' h1
      injection h6 with _ h7
      subst h7
      exact ⟨by omega, rfl, rfl, rfl⟩
    · obtain ⟨q, _, h6⟩ := bind_some h1
      obtain ⟨r, h7, h8⟩ := bind_some h6
      obtain ⟨a3, _, h9⟩ := bind_some h8
      obtain ⟨a4, _, h10⟩ := map_some' h9
      injection h10 with _ h11
      subst h11
      obtain ⟨_, ht⟩ := lastM_some (show lastM olM q.2 x (evT 8 q.1) = some (r.1, r.2) from h7)
      obtain ⟨k1, k2, k3, _, k5, _⟩ := tellO_len ht
      have k2' : depO r.2 = depO x + dK 8 := k2
      rw [dK_8] at k2'
      exact ⟨by omega, by omega, k3, k5⟩
  have q1 : lenO x2 ≤ lenO x1 + 320 := p1
  have q2 : depO x2 = depO x1 := p2
  have q3 : x2.bk = x1.bk := p3
  have q4 : x2.en = x1.en := p4
  exact ⟨(by show lenO x2 ≤ _; omega), (by show depO x2 = _; rw [q2, hx1.2.1]), (by show x2.bk = _; rw [q3, hx1.2.2.1]), (by show x2.en = _; rw [q4, hx1.2.2.2])⟩
theorem begin_fa (hS : S.length ≤ 160) {k : Int} (hk : k = 5 ∨ k = 7) {a : Nat} {x : Ox} {a' : Nat} {y : Ox} (h : beginO S k a x = some (a', y)) : lenO y ≤ lenO x + 322 ∧ depO y = depO x ∧ y.bk ≠ [] ∧ y.bk.length = x.bk.length + 1 ∧ y.en = x.en := by
  unfold beginO at h
  obtain ⟨z, h1, h2⟩ := bind_some h
  obtain ⟨k1, k2, k3, _, k5, _⟩ := tellO_len h1
  obtain ⟨e1, e2, e3, e4⟩ := entry_fa hS h2
  have k2' : depO z = depO x + dK k := k2
  have hd : dK k = 1 := by rcases hk with rfl | rfl <;> rfl
  have e3' : y.bk = z.bk ++ [k] := e3
  have e2' : depO y = depO z - 1 := by
    rw [e2]
    unfold depO
    simp only [List.length_append, List.length_singleton]
    omega
  have e1' : lenO y ≤ lenO z + 321 := e1
  exact ⟨by omega, by omega, by rw [e3']; simp, by rw [e3', List.length_append, k3]; rfl, by rw [e4]; exact k5⟩
/-- What is known between the lines, of itself. -/
structure OkS (x : Ox) : Prop where
  a : x.en = false → depO x = 1
  b : x.en = false → x.bk = [] → x.l = []
  c : x.en = true → x.bk = [] ∧ doneB x.st = true
theorem okS_bk {x : Ox} (h : OkS x) (hk : TkO x) : x.bk.length ≤ 6 := by
  have := hk.st7
  cases he : x.en with
  | false =>
    have := h.a he
    unfold depO at this
    omega
  | true => rw [(h.c he).1]; exact Nat.zero_le _
theorem okS_of {y : Ox} (hd : depO y = 1) (hb : y.bk ≠ []) (he : y.en = false) : OkS y := ⟨fun _ => hd, fun _ h => absurd h hb, fun h => by rw [he] at h; cases h⟩
theorem line_fa (hS : S.length ≤ 160) {x y : Ox} (h : lineO S x = some y) (hx : OkS x) (hk : TkO x) (hy : TkO y) : OkS y ∧ lenO y ≤ lenO x + 400 := by
  unfold lineO at h
  split at h
  · cases h; exact ⟨hx, by omega⟩
  · obtain ⟨⟨a', z⟩, h1, h2⟩ := map_some' h
    have h2' : z = y := h2
    subst h2'
    unfold meanO at h1
    split at h1
    · cases h1
    · rename_i hen
      have he : x.en = false := by simpa using hen
      have hd := hx.a he
      split at h1
      · rename_i hb
        split at h1
        · cases h1
        · unfold firstO at h1
          split at h1
          · obtain ⟨e1, e2, e3, _, e5⟩ := begin_fa hS (.inl rfl) h1
            exact ⟨okS_of (by rw [e2, hd]) e3 (by rw [e5, he]), by omega⟩
          · split at h1
            · obtain ⟨e1, e2, e3, _, e5⟩ := begin_fa hS (.inr rfl) h1
              exact ⟨okS_of (by rw [e2, hd]) e3 (by rw [e5, he]), by omega⟩
            · unfold textO at h1
              obtain ⟨a1, _, h3⟩ := bind_some h1
              obtain ⟨⟨a2, x2, bb⟩, h4, h5⟩ := bind_some h3
              split at h5
              · rename_i hbb
                have e := Option.some.inj h5
                injection e with _ e2
                subst e2
                obtain ⟨p1, p2, p3, p4, p5⟩ := part_fa hS h4
                have hl := p5 hbb
                have hst : x2.st = runS [topP] x2.l := hy.run
                have hbk : x2.bk = [] := by rw [p3, hb]
                have hlen : (runS [topP] x2.l).length = 1 := by
                  rw [← hst]
                  have q2 : depO x2 = depO x := p2
                  rw [hd] at q2
                  unfold depO at q2
                  rw [hbk] at q2
                  simp at q2
                  omega
                refine ⟨⟨(fun h => by cases h), (fun h => by cases h), fun _ => ⟨hbk, ?_⟩⟩, (by show lenO x2 ≤ _; omega)⟩
                show doneB x2.st = true
                rw [hst]
                exact run_one hy.ok hl hlen
              · cases h5
      · rename_i hb
        split at h1
        · split at h1
          · unfold fobO at h1
            split at h1
            · obtain ⟨e1, e2, e3, _, e5⟩ := begin_fa hS (.inl rfl) h1
              exact ⟨okS_of (by rw [e2, hd]) e3 (by rw [e5, he]), by omega⟩
            · split at h1
              · obtain ⟨e1, e2, e3, _, e5⟩ := begin_fa hS (.inr rfl) h1
                exact ⟨okS_of (by rw [e2, hd]) e3 (by rw [e5, he]), by omega⟩
              · cases h1
          · cases h1
        · obtain ⟨u, h3, h4⟩ := bind_some h1
          split at h4
          · obtain ⟨f1, f2, f3, f4, f5, f6⟩ := shutO_fa h3
            obtain ⟨e1, e2, e3, e4⟩ := entry_fa hS h4
            have h6 := okS_bk hx hk
            have hu : u.bk ≠ [] := by
              intro e0
              rcases Nat.le_total (blk S 0 / 2 + 1) x.bk.length with hle | hle
              · have := f5 hle; rw [e0] at this; simp at this
              · have := f6 hle; rw [e0] at this; exact hb this.symm
            exact ⟨okS_of (by rw [e2, f3, hd]) (by rw [e3]; exact hu) (by rw [e4, f4, he]), by omega⟩
          · cases h4
theorem shutN_ll (keep : Nat) : ∀ (n : Nat) (x y : Ox), shutN keep n x = some y → x.l.length ≤ y.l.length
  | 0, x, y, h => by rw [shutN] at h; cases h; exact Nat.le_refl _
  | n + 1, x, y, h => by
    rw [shutN] at h
    split at h
    · obtain ⟨z, h1, h2⟩ := bind_some h
      have k := (tellO_len h1).2.2.2.2.2.2
      have := shutN_ll keep n _ y h2
      have e : ({ z with bk := z.bk.dropLast } : Ox).l.length = z.l.length := rfl
      omega
    · cases h; exact Nat.le_refl _
/-- The end of a text makes a document. -/
theorem finO_done {x y : Ox} (h : finO x = some y) (hx : OkS x) (hk : TkO x) (hy : TkO y) : doneB (runS [topP] y.l) = true := by
  unfold finO at h
  split at h
  · rename_i he
    cases h
    rw [← hk.run]
    exact (hx.c he).2
  · rename_i hen
    have he : x.en = false := by simpa using hen
    split at h
    · cases h
    · rename_i hb
      obtain ⟨f1, f2, f3, f4, f5, f6⟩ := shutO_fa h
      have hd := hx.a he
      have hb0 := f5 (Nat.zero_le _)
      have hxl : x.l ≠ [] := by
        intro e0
        have h1 := hk.run
        rw [e0] at h1
        have h2 : x.st.length = 1 := by rw [h1]; rfl
        unfold depO at hd
        have : x.bk.length = 0 := by omega
        exact hb (List.length_eq_zero_iff.1 this)
      have hyl : y.l ≠ [] := by
        unfold shutO nulO at h
        obtain ⟨z, h1, h2⟩ := bind_some h
        have h3 := shutN_ll 0 _ z y h2
        have h4 : x.l.length ≤ z.l.length := by
          split at h1
          · have := (tellO_len h1).2.2.2.2.2.2; omega
          · cases h1; exact Nat.le_refl _
        have h5 := List.length_pos_iff.2 hxl
        intro e0
        rw [e0, List.length_nil] at h3
        omega
      refine run_one hy.ok hyl ?_
      rw [← hy.run]
      rw [hd] at f3
      unfold depO at f3
      omega
end
end Go.Proofs.YtalkjgijmceifaaGreatDoor
