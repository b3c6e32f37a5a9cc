/-
  lines: reading and telling as plain functions: values of the kinds that syntaxes of lines have in common. No contract of a call is stated here.
  The delim syntax as a plain function on bytes: the machine, its step, its end. No program is read here.
-/
import Derived.Test.YtalkjgijmceifaaGreatDoorSwA23
import Derived.Test.YtalkjgijmceifaaGreatDoorSwA13
namespace Go.Proofs.YtalkjgijmceifaaGreatDoor
set_option maxRecDepth 100000
set_option linter.unusedSimpArgs false
set_option linter.unusedVariables false
set_option linter.unusedSectionVars false
variable [Tab] [Fo]

/-- How events are told: none where one is refused. -/
structure TM (σ : Type) where
  tell : σ → Ev → Option σ
  len : σ → Nat
  dep : σ → Int
  tl : ∀ {x e x'}, tell x e = some x' → len x' = len x + 1
  td : ∀ {x e x'}, tell x e = some x' → dep x' = dep x + dK e.k
def evB (k : Int) : Ev := ⟨k, ⟨#[]⟩, ⟨#[]⟩⟩
def evT (k : Int) (t : ByteArray) : Ev := ⟨k, t, ⟨#[]⟩⟩
def trueL : List UInt8 := [116, 114, 117, 101]
def falseL : List UInt8 := [102, 97, 108, 115, 101]
section
variable {σ : Type} (M : TM σ)
/-- An event is told at a byte, which is read then. -/
def lastM (a : Nat) (x : σ) (e : Ev) : Option (Nat × σ) := (M.tell x e).map fun x' => (a + 1, x')
def valueG (S : List UInt8) (val fld : Nat → σ → Option (Nat × σ)) (a : Nat) (x : σ) : Option (Nat × σ) :=
  if isB S a 91 = true then (M.tell x (evB 5)).bind fun x1 => (partsG S 93 val (a + 1) x1).bind fun q => lastM M q.1 q.2 (evB 6)
  else if isB S a 123 = true then (M.tell x (evB 7)).bind fun x1 => (partsG S 125 fld (a + 1) x1).bind fun q => lastM M q.1 q.2 (evB 9)
  else if isB S a 34 = true then (quoP S a).bind fun q => lastM M q.2 x (evT 4 q.1)
  else if isB S a 116 = true then (wordP S trueL a).bind fun a1 => lastM M a1 x (evT 2 ⟨trueL.toArray⟩)
  else if isB S a 102 = true then (wordP S falseL a).bind fun a1 => lastM M a1 x (evT 2 ⟨falseL.toArray⟩)
  else (numP S a).bind fun q => lastM M q.2 x (evT 3 q.1)
/-- What telling a value does: it reads on, tells at most two events a byte, and leaves one as deep as one was. -/
def Fa (S : List UInt8) (f : Nat → σ → Option (Nat × σ)) : Prop := ∀ a x a' x', f a x = some (a', x') → a < a' ∧ a' ≤ S.length ∧ M.len x' ≤ M.len x + 2 * (a' - a) ∧ M.dep x' = M.dep x
variable {M}
theorem lastM_some {a : Nat} {x : σ} {e : Ev} {a' : Nat} {x' : σ} (h : lastM M a x e = some (a', x')) : a' = a + 1 ∧ M.tell x e = some x' := by
  unfold lastM at h
  cases ht : M.tell x e with
  | none => rw [ht] at h; cases h
  | some y => rw [ht] at h; cases h; exact ⟨rfl, rfl⟩
theorem last_fa {a : Nat} {x : σ} {e : Ev} {a' : Nat} {x' : σ} (h : lastM M a x e = some (a', x')) : a' = a + 1 ∧ M.len x' = M.len x + 1 ∧ M.dep x' = M.dep x + dK e.k := by
  obtain ⟨h1, h2⟩ := lastM_some h
  exact ⟨h1, M.tl h2, M.td h2⟩
variable {S : List UInt8}
theorem blk_le {a : Nat} (h : a ≤ S.length) : blk S a ≤ S.length := by
  unfold blk
  have h1 : ((S.drop a).takeWhile (· == 32)).length ≤ (S.drop a).length := (List.takeWhile_sublist _).length_le
  rw [List.length_drop] at h1
  omega
theorem pLoop_fa {b : UInt8} {p : Nat → σ → Option (Nat × σ)} (hp : Fa M S p) : ∀ (n a : Nat) (x : σ) (a' : Nat) (x' : σ), pLoop S b p n a x = some (a', x') → a ≤ a' ∧ isB S a' b = true ∧ M.len x' ≤ M.len x + 2 * (a' - a) ∧ M.dep x' = M.dep x
  | 0, _, _, _, _, h => by cases h
  | n + 1, a, x, a', x', h => by
    rw [pLoop] at h
    split at h
    · have h0 := le_blk S (a + 1)
      cases hq : p (blk S (a + 1)) x with
      | none => rw [hq] at h; cases h
      | some q =>
        obtain ⟨a2, x2⟩ := q
        rw [hq] at h
        obtain ⟨h1, h2, h3, h4⟩ := hp _ _ _ _ hq
        obtain ⟨k1, k2, k3, k4⟩ := pLoop_fa hp n (blk S a2) x2 a' x' h
        have h5 := le_blk S a2
        exact ⟨by omega, k2, by omega, by omega⟩
    · split at h
      · rename_i hb
        cases h
        exact ⟨Nat.le_refl _, hb, by omega, rfl⟩
      · cases h
theorem parts_fa {b : UInt8} {p : Nat → σ → Option (Nat × σ)} (hp : Fa M S p) {a : Nat} {x : σ} {a' : Nat} {x' : σ} (h : partsG S b p a x = some (a', x')) : a ≤ a' ∧ isB S a' b = true ∧ M.len x' ≤ M.len x + 2 * (a' - a) ∧ M.dep x' = M.dep x := by
  unfold partsG at h
  have h0 := le_blk S a
  split at h
  · rename_i hb
    cases h
    exact ⟨h0, hb, by omega, rfl⟩
  · cases hq : p (blk S a) x with
    | none => rw [hq] at h; cases h
    | some q =>
      obtain ⟨a2, x2⟩ := q
      rw [hq] at h
      obtain ⟨h1, h2, h3, h4⟩ := hp _ _ _ _ hq
      obtain ⟨k1, k2, k3, k4⟩ := pLoop_fa hp _ (blk S a2) x2 a' x' h
      have h5 := le_blk S a2
      exact ⟨by omega, k2, by omega, by omega⟩
theorem lgRun_len {g : ByteArray → UInt8 → Bool} {mx : Nat} : ∀ (l : List UInt8) (s t : ByteArray), lgRun g mx l s = some t → t.size ≤ s.size + l.length
  | [], s, t, h => by rw [lgRun] at h; cases h; simp
  | b :: r, s, t, h => by
    rw [lgRun] at h
    split at h
    · split at h
      · cases h
      · have h1 := lgRun_len r _ t h
        have h2 : (s ++ (⟨#[b]⟩ : ByteArray)).size = s.size + 1 := ByteArray.size_append
        rw [List.length_cons]
        omega
    · cases h; simp
theorem lgP_fa {g : ByteArray → UInt8 → Bool} {mx : Nat} {et : ByteArray → ByteArray} {ec : ByteArray → Int} (h0 : ∀ s, ec s = 0 → 0 < s.size) {a : Nat} {t : ByteArray} {a' : Nat} (h : lgP g mx et ec S a = some (t, a')) : a ≤ a' ∧ a' < S.length := by
  unfold lgP at h
  cases hr : lgRun g mx (S.drop a) ⟨#[]⟩ with
  | none => rw [hr] at h; cases h
  | some s =>
    rw [hr] at h
    have h' : (if ec s = 0 then some (et s, a + s.size - 1) else none) = some (t, a') := h
    split at h'
    · rename_i he
      have h1 := h0 s he
      have h2 := lgRun_len _ _ _ hr
      rw [List.length_drop] at h2
      have h3 : (⟨#[]⟩ : ByteArray).size = 0 := rfl
      have h4 : a + s.size - 1 = a' := by injection h' with h'; injection h'
      omega
    · cases h'
theorem num_fa {a : Nat} {t : ByteArray} {a' : Nat} (h : numP S a = some (t, a')) : a ≤ a' ∧ a' < S.length := lgP_fa tkNum.ec0 h
theorem name_fa {a : Nat} {t : ByteArray} {a' : Nat} (h : nameP S a = some (t, a')) : a ≤ a' ∧ a' < S.length := lgP_fa tkName.ec0 h
theorem bare_fa {a : Nat} {t : ByteArray} {a' : Nat} (h : bareP S a = some (t, a')) : a ≤ a' ∧ a' < S.length := lgP_fa tkBare.ec0 h
theorem meetB_some {a : Nat} {b : UInt8} {a' : Nat} (h : meetB S a b = some a') : a' = a ∧ a < S.length := by
  unfold meetB at h
  split at h
  · rename_i hb; cases h; exact ⟨rfl, isB_true hb⟩
  · cases h
theorem eatB_some {a : Nat} {b : UInt8} {a' : Nat} (h : eatB S a b = some a') : a' = a + 1 ∧ a < S.length := by
  unfold eatB at h
  split at h
  · rename_i hb; cases h; exact ⟨rfl, isB_true hb⟩
  · cases h
theorem word_fa : ∀ (wd : List UInt8) (a a' : Nat), wordP S wd a = some a' → a ≤ a' ∧ a' < S.length
  | [], _, _, h => by cases h
  | [b], a, a', h => by
    obtain ⟨h1, h2⟩ := meetB_some (show meetB S a b = some a' from h)
    omega
  | b :: c :: r, a, a', h => by
    rw [wordP] at h
    cases he : eatB S a b with
    | none => rw [he] at h; cases h
    | some a1 =>
      rw [he] at h
      obtain ⟨h1, h2⟩ := eatB_some he
      have := word_fa (c :: r) a1 a' h
      omega
theorem qd_fa : ∀ (l : List UInt8) (q : Qt.QS) (a : Nat) (t : ByteArray) (a' : Nat), qdRun l q a = some (t, a') → a ≤ a' ∧ a' < a + l.length
  | [], _, _, _, _, h => by cases h
  | b :: r, q, a, t, a', h => by
    rw [qdRun] at h
    split at h
    · cases h
    · split at h
      · have h1 : a = a' := by injection h with h; injection h
        rw [List.length_cons]
        omega
      · have := qd_fa r _ _ _ _ h
        rw [List.length_cons]
        omega
theorem quo_fa {a : Nat} {t : ByteArray} {a' : Nat} (h : quoP S a = some (t, a')) : a < a' ∧ a' < S.length := by
  unfold quoP at h
  cases he : eatB S a 34 with
  | none => rw [he] at h; cases h
  | some a1 =>
    rw [he] at h
    obtain ⟨h1, h2⟩ := eatB_some he
    have := qd_fa _ _ _ _ _ (show qdRun (S.drop a1) (Qt.plainQ []) a1 = some (t, a') from h)
    rw [List.length_drop] at this
    omega
theorem qd_sz : ∀ (l : List UInt8) (q : Qt.QS) (a : Nat) (t : ByteArray) (a' : Nat), Qt.QInv q → qdRun l q a = some (t, a') → t.size ≤ 1000
  | [], _, _, _, _, _, h => by cases h
  | b :: r, q, a, t, a', hq, h => by
    have h1 := Qt.qInv_step (b := (b.toNat : Int)) hq
    rw [qdRun] at h
    split at h
    · cases h
    · split at h
      · have h2 : (⟨(Qt.qStep q (b.toNat : Int)).q.xs.toArray⟩ : ByteArray) = t := by injection h with h; injection h
        rw [← h2, bsize]
        have := h1.1
        omega
      · exact qd_sz r _ _ _ _ h1 h
theorem quo_sz {a : Nat} {t : ByteArray} {a' : Nat} (h : quoP S a = some (t, a')) : t.size ≤ 1000 := by
  unfold quoP at h
  cases he : eatB S a 34 with
  | none => rw [he] at h; cases h
  | some a1 => rw [he] at h; exact qd_sz _ _ _ _ _ Qt.qInv0 (show qdRun (S.drop a1) (Qt.plainQ []) a1 = some (t, a') from h)
theorem lgRun_sz {g : ByteArray → UInt8 → Bool} {mx : Nat} : ∀ (l : List UInt8) (s t : ByteArray), s.size ≤ mx → lgRun g mx l s = some t → t.size ≤ mx
  | [], s, t, hs, h => by rw [lgRun] at h; cases h; exact hs
  | b :: r, s, t, hs, h => by
    rw [lgRun] at h
    split at h
    · split at h
      · cases h
      · have h2 : (s ++ (⟨#[b]⟩ : ByteArray)).size = s.size + 1 := ByteArray.size_append
        exact lgRun_sz r _ t (by omega) h
    · cases h; exact hs
theorem lgP_sz {g : ByteArray → UInt8 → Bool} {mx : Nat} {et : ByteArray → ByteArray} {ec : ByteArray → Int} (hm : mx ≤ 900) (hz : ∀ s, s.size ≤ 1000 → (et s).size ≤ 1000) {a : Nat} {t : ByteArray} {a' : Nat} (h : lgP g mx et ec S a = some (t, a')) : t.size ≤ 1000 := by
  unfold lgP at h
  cases hr : lgRun g mx (S.drop a) ⟨#[]⟩ with
  | none => rw [hr] at h; cases h
  | some s =>
    rw [hr] at h
    have h' : (if ec s = 0 then some (et s, a + s.size - 1) else none) = some (t, a') := h
    split at h'
    · have h4 : et s = t := by injection h' with h'; injection h'
      have := lgRun_sz _ _ _ (Nat.zero_le _) hr
      rw [← h4]
      exact hz s (by omega)
    · cases h'
theorem num_sz {a : Nat} {t : ByteArray} {a' : Nat} (h : numP S a = some (t, a')) : t.size ≤ 1000 := lgP_sz tkNum.mx9 tkNum.etz h
theorem name_sz {a : Nat} {t : ByteArray} {a' : Nat} (h : nameP S a = some (t, a')) : t.size ≤ 1000 := lgP_sz tkName.mx9 tkName.etz h
theorem bare_sz {a : Nat} {t : ByteArray} {a' : Nat} (h : bareP S a = some (t, a')) : t.size ≤ 1000 := lgP_sz tkBare.mx9 tkBare.etz h
theorem value_fa {val fld : Nat → σ → Option (Nat × σ)} (hv : Fa M S val) (hf : Fa M S fld) : Fa M S (valueG M S val fld) := by
  intro a x a' x' h
  unfold valueG at h
  have two : ∀ (b1 b2 : UInt8) (e1 e2 : Ev) (p : Nat → σ → Option (Nat × σ)), Fa M S p → dK e1.k = 1 → dK e2.k = -1 → isB S a b1 = true → ((M.tell x e1).bind fun x1 => (partsG S b2 p (a + 1) x1).bind fun q => lastM M q.1 q.2 e2) = some (a', x') → a < a' ∧ a' ≤ S.length ∧ M.len x' ≤ M.len x + 2 * (a' - a) ∧ M.dep x' = M.dep x := by
    intro b1 b2 e1 e2 p hp d1 d2 hb h
    have hal := isB_true hb
    cases ht : M.tell x e1 with
    | none => rw [ht] at h; cases h
    | some x1 =>
      rw [ht] at h
      have h' : ((partsG S b2 p (a + 1) x1).bind fun q => lastM M q.1 q.2 e2) = some (a', x') := h
      cases hq : partsG S b2 p (a + 1) x1 with
      | none => rw [hq] at h'; cases h'
      | some q =>
        obtain ⟨a2, x2⟩ := q
        rw [hq] at h'
        obtain ⟨k1, k2, k3, k4⟩ := parts_fa hp hq
        obtain ⟨j1, j2, j3⟩ := last_fa (show lastM M a2 x2 e2 = some (a', x') from h')
        have := M.tl ht
        have := M.td ht
        have := isB_true k2
        refine ⟨by omega, by omega, by omega, ?_⟩
        rw [j3, k4, M.td ht, d1, d2]
        omega
  have one : ∀ (a2 : Nat) (e : Ev), dK e.k = 0 → a ≤ a2 → a2 < S.length → lastM M a2 x e = some (a', x') → a < a' ∧ a' ≤ S.length ∧ M.len x' ≤ M.len x + 2 * (a' - a) ∧ M.dep x' = M.dep x := by
    intro a2 e d h1 h2 h3
    obtain ⟨j1, j2, j3⟩ := last_fa h3
    exact ⟨by omega, by omega, by omega, by rw [j3, d]; omega⟩
  split at h
  · exact two 91 93 _ _ val hv rfl rfl (by assumption) h
  · split at h
    · exact two 123 125 _ _ fld hf rfl rfl (by assumption) h
    · split at h
      · cases hq : quoP S a with
        | none => rw [hq] at h; cases h
        | some q =>
          obtain ⟨t, a2⟩ := q
          rw [hq] at h
          obtain ⟨h1, h2⟩ := quo_fa hq
          exact one a2 _ rfl (by omega) h2 h
      · split at h
        · cases hq : wordP S trueL a with
          | none => rw [hq] at h; cases h
          | some a2 =>
            rw [hq] at h
            obtain ⟨h1, h2⟩ := word_fa _ _ _ hq
            exact one a2 _ rfl h1 h2 h
        · split at h
          · cases hq : wordP S falseL a with
            | none => rw [hq] at h; cases h
            | some a2 =>
              rw [hq] at h
              obtain ⟨h1, h2⟩ := word_fa _ _ _ hq
              exact one a2 _ rfl h1 h2 h
          · cases hq : numP S a with
            | none => rw [hq] at h; cases h
            | some q =>
              obtain ⟨t, a2⟩ := q
              rw [hq] at h
              obtain ⟨h1, h2⟩ := num_fa hq
              exact one a2 _ rfl h1 h2 h
end
end Go.Proofs.YtalkjgijmceifaaGreatDoor
namespace Go.Proofs.YtalkjgijmceifaaGreatDoor
set_option maxRecDepth 100000
set_option linter.unusedSectionVars false
variable [Tab]

/-- The machine: where the next byte stands; the names of the columns; whether the header has ended; the cells of the open row that were told; what the open cell says up to now. -/
structure Dm where
  a : Int
  cols : List (List UInt8)
  hd : Bool
  n : Nat
  c : List UInt8
def dm0 : Dm := ⟨0, [], false, 0, []⟩
structure Ds where
  m : Dm
  st : List Pt
  l : List Ev
structure Dr where
  b : Ds
  e : Int
def ds0 : Ds := ⟨dm0, [topP], []⟩
def tellD (m : Dm) (st : List Pt) (l : List Ev) (x : Ev) : Dr := ⟨⟨m, stepS st x, tellL st l x⟩, stepE st x⟩
def addD (s : Ds) (b : UInt8) : Dr := if 48 ≤ s.m.c.length then ⟨s, 4⟩ else ⟨{ s with m := { s.m with c := s.m.c ++ [b] } }, 0⟩
def addColD (s : Ds) (t : List UInt8) (last : Bool) : Dr :=
  if t ∈ s.m.cols then ⟨s, 6⟩
  else ⟨{ s with m := { s.m with cols := s.m.cols ++ [t] } }, if last = false ∧ s.m.cols.length + 1 = 8 then 16 else 0⟩
/-- The Map ahead of a row's first cell. -/
def rowD (s : Ds) : Dr := if s.m.n = 0 then tellD s.m s.st s.l (bare 7) else ⟨s, 0⟩
def colD (s : Ds) : List UInt8 := s.m.cols.getD s.m.n []
def keyD (s : Ds) : Dr := tellD s.m s.st s.l ⟨8, ⟨(colD s).toArray⟩, ⟨#[]⟩⟩
def textD (s : Ds) (t : List UInt8) : Dr := tellD { s.m with n := s.m.n + 1 } s.st s.l ⟨4, ⟨t.toArray⟩, ⟨#[]⟩⟩
def tellCellD (s : Ds) (t : List UInt8) : Dr :=
  if (rowD s).e ≠ 0 then rowD s
  else if (keyD (rowD s).b).e ≠ 0 then keyD (rowD s).b
  else textD (keyD (rowD s).b).b t
def countD (s : Ds) (last : Bool) : Dr :=
  if last ≠ decide (s.m.n = s.m.cols.length) then ⟨s, 17⟩
  else if last = false then ⟨s, 0⟩ else tellD { s.m with n := 0 } s.st s.l (bare 9)
def emptyD (s : Ds) : Ds := { s with m := { s.m with c := [] } }
def endCellD (s : Ds) (last : Bool) : Dr :=
  if s.m.hd = false then addColD { s with m := { s.m with c := [], hd := last } } s.m.c last
  else if (tellCellD (emptyD s) s.m.c).e ≠ 0 then tellCellD (emptyD s) s.m.c
  else countD (tellCellD (emptyD s) s.m.c).b last
def setA (s : Ds) (a : Int) : Ds := { s with m := { s.m with a := a } }
def outD (s : Ds) (b : UInt8) : Dr :=
  if b.toNat = 44 then endCellD (setA s 2) false
  else if b.toNat = 10 then endCellD (setA s 1) true
  else if b.toNat < 32 ∨ b.toNat = 34 ∨ s.m.a = 5 then ⟨s, 2⟩ else addD s b
def cellD (s : Ds) (b : UInt8) : Dr := if b.toNat = 34 then ⟨setA s 4, 0⟩ else outD (setA s 3) b
def listD (s : Ds) : Dr := tellD s.m s.st s.l (bare 5)
def stepD (s : Ds) (b : UInt8) : Dr :=
  if s.m.a = 0 then (if (listD s).e ≠ 0 then listD s else cellD (listD s).b b)
  else if s.m.a = 1 ∨ s.m.a = 2 then cellD s b
  else if s.m.a = 4 then (if b.toNat = 34 then ⟨setA s 5, 0⟩ else addD s b)
  else if s.m.a = 5 ∧ b.toNat = 34 then addD (setA s 4) b
  else outD s b
def endD (s : Ds) : Dr :=
  if s.m.a = 0 then listD s else if s.m.a = 4 then ⟨s, 2⟩ else if s.m.a = 1 then ⟨s, 0⟩ else endCellD s true
def finD (s : Ds) : Dr := if (endD s).e ≠ 0 then endD s else tellD (endD s).b.m (endD s).b.st (endD s).b.l (bare 6)
end Go.Proofs.YtalkjgijmceifaaGreatDoor
