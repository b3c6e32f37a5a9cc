/-
  sections as plain functions: what is known between the lines; a header, an assignment, the end; how many events are told, and how deep one is. No contract of a call is stated here.
  Foreign blocks, others than before: what a decoder holds stays clear of blocks that are new, and lies as it lay where foreign blocks alone have turned, or what its events lay in has.
-/
import Derived.Test.YtalkjgijmceifaaGreatDoorSwA24
import Derived.Test.YtalkjgijmceifaaGreatDoorSwA25
import Derived.Test.YtalkjgijmceifaaGreatDoorSwA14
import Derived.Test.YtalkjgijmceifaaGreatDoorSwA19
namespace Go.Proofs.YtalkjgijmceifaaGreatDoor
set_option maxRecDepth 100000
set_option linter.unusedSimpArgs false
set_option linter.unusedVariables false
set_option linter.unusedSectionVars false
variable [Tab] [Fo]

/-- The Check, the events; the first Map was told; the position; the path of the last header. -/
structure Sx where
  st : List Pt
  l : List Ev
  bg : Bool
  pos : List (ByteArray × Bool)
  bs : List ByteArray
def tellX (x : Sx) (e : Ev) : Option Sx := if stepE x.st e = 0 then some { x with st := stepS x.st e, l := x.l ++ [e] } else none
def wtP : List (ByteArray × Bool) → Int
  | [] => 0
  | s :: r => (if s.2 = true then 2 else 1) + wtP r
theorem wtP_snoc (l : List (ByteArray × Bool)) (s : ByteArray × Bool) : wtP (l ++ [s]) = wtP l + (if s.2 = true then 2 else 1) := by
  induction l with
  | nil => simp [wtP]
  | cons a r ih => simp only [List.cons_append, wtP, ih]; omega
def depX (x : Sx) : Int := x.st.length - (if x.bg = true then 1 else 0) - wtP x.pos
theorem tellX_some {x : Sx} {e : Ev} {x' : Sx} (h : tellX x e = some x') : stepE x.st e = 0 ∧ x' = { x with st := stepS x.st e, l := x.l ++ [e] } := by
  unfold tellX at h
  split at h
  · rename_i h0; exact ⟨h0, (Option.some.inj h).symm⟩
  · cases h
@[reducible] def secM : TM Sx where
  tell := tellX
  len := fun x => x.l.length
  dep := depX
  tl := fun h => by
    obtain ⟨_, rfl⟩ := tellX_some h
    simp
  td := fun h => by
    obtain ⟨h0, rfl⟩ := tellX_some h
    have := stp_deep h0
    unfold depX
    simp only
    omega
/-- What was told is a run. -/
structure TkS (x : Sx) : Prop where
  ok : allOk [topP] x.l
  run : x.st = runS [topP] x.l
  sz : ∀ e ∈ x.l, okE e
  good : Good x.st
theorem tkS_tell {x x' : Sx} {e : Ev} (h : TkS x) (he : okE e) (ht : tellX x e = some x') : TkS x' := by
  obtain ⟨h0, rfl⟩ := tellX_some ht
  obtain ⟨h1, h2, h3, h4⟩ := h
  have hg := good_step h4 e
  refine ⟨?_, ?_, ?_, hg⟩
  · rw [h2] at h0
    exact (allOk_snoc _ _ _).2 ⟨h1, h0⟩
  · show stepS x.st e = _
    rw [runS_snoc, ← h2]
  · intro y hy
    rcases List.mem_append.1 hy with hy | hy
    · exact h3 y hy
    · rw [List.mem_singleton.1 hy]; exact he
theorem TkS.of {x y : Sx} (h : TkS x) (h1 : y.st = x.st) (h2 : y.l = x.l) : TkS y := ⟨by rw [h2]; exact h.ok, by rw [h1, h2]; exact h.run, by rw [h2]; exact h.sz, by rw [h1]; exact h.good⟩
theorem TkS.st7 {x : Sx} (h : TkS x) : 1 ≤ x.st.length ∧ x.st.length ≤ 7 := ⟨by obtain ⟨p, r, e⟩ := h.good.ne; rw [e]; simp, h.good.2⟩

def shut1 (x : Sx) : Option Sx :=
  match x.pos.getLast? with
  | none => none
  | some s => (tellX x (evB 9)).bind fun x1 => (if s.2 = true then tellX x1 (evB 6) else some x1).bind fun x2 => some { x2 with pos := x2.pos.dropLast }
def shutS (keep : Nat) : Nat → Sx → Option Sx
  | 0, x => some x
  | n + 1, x => if keep < x.pos.length then (shut1 x).bind (shutS keep n) else some x
def shutK (keep : Nat) (x : Sx) : Option Sx := shutS keep x.pos.length x
def openS (s : ByteArray × Bool) (x : Sx) : Option Sx :=
  (tellX x (evT 8 s.1)).bind fun x1 => (if s.2 = true then tellX x1 (evB 5) else some x1).bind fun x2 => (tellX x2 (evB 7)).bind fun x3 => some { x3 with pos := x3.pos ++ [s] }
def beginS (x : Sx) : Option Sx := if x.bg = true then some x else (tellX x (evB 7)).map fun y => { y with bg := true }
def leadS : List (ByteArray × Bool) → List ByteArray → Nat
  | s :: p, k :: q => if s.1 = k then leadS p q + 1 else 0
  | _, _ => 0
def openAll : List ByteArray → Sx → Option Sx
  | [], x => some x
  | k :: r, x => (openS (k, false) x).bind (openAll r)
def moveS (path : List ByteArray) (x : Sx) : Option Sx := (shutK (leadS x.pos path) x).bind (openAll (path.drop (leadS x.pos path)))
def keyP (S : List UInt8) (a : Nat) : Option (ByteArray × Nat) := if isB S a 34 = true then quoP S a else bareP S a
def setToS (S : List UInt8) (v : Nat → Sx → Option (Nat × Sx)) (a : Nat) (x : Sx) : Option (Nat × Sx) := (eatB S a 61).bind fun a1 => v (blk S a1) x
def fldS (S : List UInt8) (v : Nat → Sx → Option (Nat × Sx)) (a : Nat) (x : Sx) : Option (Nat × Sx) :=
  (keyP S a).bind fun q => (lastM secM q.2 x (evT 8 q.1)).bind fun p => setToS S v (blk S p.1) p.2
def valS (S : List UInt8) : Nat → Nat → Sx → Option (Nat × Sx)
  | 0 => fun _ _ => none
  | n + 1 => valueG secM S (valS S n) (fldS S (valS S n))
def pathA (S : List UInt8) : Nat → Nat → List ByteArray → Option (List ByteArray × Nat)
  | 0, _, _ => none
  | n + 1, a, acc => (keyP S a).bind fun q => if isB S (q.2 + 1) 46 = true then pathA S n (q.2 + 2) (acc ++ [q.1]) else some (acc ++ [q.1], q.2 + 1)
def pathP (S : List UInt8) (a : Nat) : Option (List ByteArray × Nat) := pathA S (S.length + 1) a []
def inRowS (pos : List (ByteArray × Bool)) (ks : List ByteArray) : Bool := decide (ks.length - 1 < leadS pos ks) && (match pos[ks.length - 1]? with | some s => s.2 | none => false)
def nextRowS (keep : Nat) (x : Sx) : Option Sx := (shutK keep x).bind fun x1 => (tellX x1 (evB 9)).bind fun x2 => tellX x2 (evB 7)
def lastK (ks : List ByteArray) : ByteArray := match ks.getLast? with | some k => k | none => ⟨#[]⟩
def enterS (ks : List ByteArray) (row : Bool) (x : Sx) : Option Sx := (moveS ks.dropLast x).bind (openS (lastK ks, row))
def headTo (S : List UInt8) (row : Bool) (ks : List ByteArray) (a : Nat) (x : Sx) : Option (Nat × Sx) :=
  (meetB S a 93).bind fun a4 => (beginS { x with bs := ks }).bind fun x2 => (if (row && inRowS x2.pos ks) = true then nextRowS ks.length x2 else enterS ks row x2).bind fun x3 =>
    (if row = true then eatB S (a4 + 1) 93 else some (a4 + 1)).map fun a5 => (a5, x3)
def headerS (S : List UInt8) (a : Nat) (x : Sx) : Option (Nat × Sx) :=
  (eatB S a 91).bind fun a1 => (pathP S (if isB S a1 91 = true then a1 + 1 else a1)).bind fun q => headTo S (isB S a1 91) q.1 q.2 x
def assignS (S : List UInt8) (a : Nat) (x : Sx) : Option (Nat × Sx) :=
  (pathP S a).bind fun q => (meetB S (blk S q.2) 61).bind fun a2 => (beginS x).bind fun x1 => (moveS (x.bs ++ q.1).dropLast x1).bind fun x2 => (tellX x2 (evT 8 (lastK (x.bs ++ q.1)))).bind fun x3 => setToS S (valS S (S.length + 1)) a2 x3
def lineS (S : List UInt8) (x : Sx) : Option Sx :=
  if cmB S 0 = true then some x else ((if isB S (blk S 0) 91 = true then headerS S (blk S 0) x else assignS S (blk S 0) x).bind fun q => (finB S q.1).map fun _ => q.2)
def finX (x : Sx) : Option Sx := (beginS x).bind fun x1 => (shutK 0 x1).bind fun x2 => tellX x2 (evB 9)

/-! How many events, and how deep. -/
/-- What one does to the other: at most k events and 2 for each that it is less deep, 3 for each that it is deeper; as deep as the position says. -/
structure Cost (k : Nat) (x x' : Sx) : Prop where
  tk : TkS x → TkS x'
  dep : depX x' = depX x
theorem okE_B {k : Int} (hk : 0 ≤ k ∧ k ≤ 12) : okE (evB k) := ⟨by show -9223372036854775808 ≤ k; omega, by show k ≤ 9223372036854775807; omega, Nat.zero_le _, Nat.zero_le _⟩
theorem okE_T {k : Int} (hk : 0 ≤ k ∧ k ≤ 12) {t : ByteArray} (ht : t.size ≤ 1000) : okE (evT k t) := ⟨by show -9223372036854775808 ≤ k; omega, by show k ≤ 9223372036854775807; omega, by show t.size ≤ _; omega, Nat.zero_le _⟩
theorem tell_len {x x' : Sx} {e : Ev} (h : tellX x e = some x') : x'.l.length = x.l.length + 1 ∧ (x'.st.length : Int) = x.st.length + dK e.k ∧ x'.bg = x.bg ∧ x'.pos = x.pos ∧ x'.bs = x.bs := by
  obtain ⟨h0, rfl⟩ := tellX_some h
  exact ⟨by simp, stp_deep h0, rfl, rfl, rfl⟩
theorem dK_5 : dK 5 = 1 := rfl
theorem dK_6 : dK 6 = -1 := rfl
theorem dK_7 : dK 7 = 1 := rfl
theorem dK_8 : dK 8 = 0 := rfl
theorem dK_9 : dK 9 = -1 := rfl
/-- One step less. -/
theorem shut1_facts {x x' : Sx} (h : shut1 x = some x') : x'.l.length + 2 * x'.st.length ≤ x.l.length + 2 * x.st.length ∧ x'.pos = x.pos.dropLast ∧ x'.bs = x.bs ∧ x'.bg = x.bg ∧ depX x' = depX x ∧ x'.st.length < x.st.length ∧ (TkS x → TkS x') := by
  unfold shut1 at h
  cases hp : x.pos.getLast? with
  | none => rw [hp] at h; cases h
  | some s =>
    rw [hp] at h
    have h' : ((tellX x (evB 9)).bind fun x1 => (if s.2 = true then tellX x1 (evB 6) else some x1).bind fun x2 => some { x2 with pos := x2.pos.dropLast }) = some x' := h
    have hpos : x.pos = x.pos.dropLast ++ [s] := by
      have hne : x.pos ≠ [] := by intro e; rw [e] at hp; cases hp
      have := List.dropLast_concat_getLast hne
      rw [List.getLast?_eq_some_getLast hne] at hp
      rw [← Option.some.inj hp]
      exact this.symm
    cases ht : tellX x (evB 9) with
    | none => rw [ht] at h'; cases h'
    | some x1 =>
      rw [ht] at h'
      obtain ⟨a1, a2, a3, a4, a5⟩ := tell_len ht
      have a2' : (x1.st.length : Int) = x.st.length - 1 := by rw [a2]; show _ + dK 9 = _; rw [dK_9]; omega
      have h2 : ((if s.2 = true then tellX x1 (evB 6) else some x1).bind fun x2 => some { x2 with pos := x2.pos.dropLast }) = some x' := h'
      cases hs : s.2 with
      | true =>
        rw [hs, if_pos rfl] at h2
        cases ht2 : tellX x1 (evB 6) with
        | none => rw [ht2] at h2; cases h2
        | some x2 =>
          rw [ht2] at h2
          have h3 : some { x2 with pos := x2.pos.dropLast } = some x' := h2
          obtain ⟨b1, b2, b3, b4, b5⟩ := tell_len ht2
          have b2' : (x2.st.length : Int) = x1.st.length - 1 := by rw [b2]; show _ + dK 6 = _; rw [dK_6]; omega
          have e := Option.some.inj h3
          subst e
          refine ⟨by simp only; omega, by simp only; rw [b4, a4], by simp only; rw [b5, a5], by simp only; rw [b3, a3], ?_, by simp only; omega, fun hk => TkS.of (tkS_tell (tkS_tell hk (okE_B (by decide)) ht) (okE_B (by decide)) ht2) rfl rfl⟩
          unfold depX
          simp only
          rw [b4, a4, b3, a3]
          have hw : wtP x.pos = wtP x.pos.dropLast + 2 := by rw [hpos, wtP_snoc, hs]; simp
          rw [hw]
          omega
      | false =>
        rw [hs, if_neg (by decide)] at h2
        have h3 : some { x1 with pos := x1.pos.dropLast } = some x' := h2
        have e := Option.some.inj h3
        subst e
        refine ⟨by simp only; omega, by simp only; rw [a4], by simp only; rw [a5], by simp only; rw [a3], ?_, by simp only; omega, fun hk => TkS.of (tkS_tell hk (okE_B (by decide)) ht) rfl rfl⟩
        unfold depX
        simp only
        rw [a4, a3]
        have hw : wtP x.pos = wtP x.pos.dropLast + 1 := by rw [hpos, wtP_snoc, hs]; simp
        rw [hw]
        omega
theorem shutS_facts (keep : Nat) : ∀ (n : Nat) (x x' : Sx), shutS keep n x = some x' → x'.l.length + 2 * x'.st.length ≤ x.l.length + 2 * x.st.length ∧ x'.bs = x.bs ∧ x'.bg = x.bg ∧ depX x' = depX x ∧ x'.st.length ≤ x.st.length ∧ (TkS x → TkS x') ∧ (x.pos.length ≤ n → x'.pos.length ≤ keep ∨ x'.pos.length ≤ keep) ∧ (x.pos.length ≤ n → keep ≤ x.pos.length → x'.pos.length = keep)
  | 0, x, x', h => by
    rw [shutS] at h
    cases h
    exact ⟨Nat.le_refl _, rfl, rfl, rfl, Nat.le_refl _, fun h => h, fun h => .inl (by omega), fun h1 h2 => by omega⟩
  | n + 1, x, x', h => by
    rw [shutS] at h
    split at h
    · rename_i hk
      cases h1 : shut1 x with
      | none => rw [h1] at h; cases h
      | some y =>
        rw [h1] at h
        obtain ⟨a1, a2, a3, a4, a5, a6, a7⟩ := shut1_facts h1
        obtain ⟨b1, b2, b3, b4, b5, b6, b7, b8⟩ := shutS_facts keep n y x' h
        have hl : y.pos.length = x.pos.length - 1 := by rw [a2, List.length_dropLast]
        exact ⟨by omega, by rw [b2, a3], by rw [b3, a4], by rw [b4, a5], by omega, fun h => b6 (a7 h), fun h => b7 (by omega), fun h1 h2 => b8 (by omega) (by omega)⟩
    · rename_i hk
      cases h
      exact ⟨Nat.le_refl _, rfl, rfl, rfl, Nat.le_refl _, fun h => h, fun h => .inl (by omega), fun h1 h2 => by omega⟩
theorem openS_facts {s : ByteArray × Bool} {x x' : Sx} (hs : s.1.size ≤ 1000) (h : openS s x = some x') : x'.l.length + 3 * x.st.length ≤ x.l.length + 3 * x'.st.length ∧ x'.pos = x.pos ++ [s] ∧ x'.bs = x.bs ∧ x'.bg = x.bg ∧ depX x' = depX x ∧ (TkS x → TkS x') := by
  unfold openS at h
  cases ht : tellX x (evT 8 s.1) with
  | none => rw [ht] at h; cases h
  | some x1 =>
    rw [ht] at h
    obtain ⟨a1, a2, a3, a4, a5⟩ := tell_len ht
    have a2' : (x1.st.length : Int) = x.st.length := by rw [a2]; show _ + dK 8 = _; rw [dK_8]; omega
    have h2 : ((if s.2 = true then tellX x1 (evB 5) else some x1).bind fun x2 => (tellX x2 (evB 7)).bind fun x3 => some { x3 with pos := x3.pos ++ [s] }) = some x' := h
    cases hr : s.2 with
    | true =>
      rw [hr, if_pos rfl] at h2
      cases ht2 : tellX x1 (evB 5) with
      | none => rw [ht2] at h2; cases h2
      | some x2 =>
        rw [ht2] at h2
        obtain ⟨b1, b2, b3, b4, b5⟩ := tell_len ht2
        have b2' : (x2.st.length : Int) = x1.st.length + 1 := by rw [b2]; show _ + dK 5 = _; rw [dK_5]
        have h3 : ((tellX x2 (evB 7)).bind fun x3 => some { x3 with pos := x3.pos ++ [s] }) = some x' := h2
        cases ht3 : tellX x2 (evB 7) with
        | none => rw [ht3] at h3; cases h3
        | some x3 =>
          rw [ht3] at h3
          obtain ⟨c1, c2, c3, c4, c5⟩ := tell_len ht3
          have c2' : (x3.st.length : Int) = x2.st.length + 1 := by rw [c2]; show _ + dK 7 = _; rw [dK_7]
          have h4 : some { x3 with pos := x3.pos ++ [s] } = some x' := h3
          have e := Option.some.inj h4
          subst e
          refine ⟨by simp only; omega, by simp only; rw [c4, b4, a4], by simp only; rw [c5, b5, a5], by simp only; rw [c3, b3, a3], ?_, fun hk => TkS.of (tkS_tell (tkS_tell (tkS_tell hk (okE_T (by decide) hs) ht) (okE_B (by decide)) ht2) (okE_B (by decide)) ht3) rfl rfl⟩
          unfold depX
          simp only
          rw [c4, b4, a4, c3, b3, a3, wtP_snoc, hr]
          simp only [if_true]
          omega
    | false =>
      rw [hr, if_neg (by decide)] at h2
      have h3 : ((tellX x1 (evB 7)).bind fun x3 => some { x3 with pos := x3.pos ++ [s] }) = some x' := h2
      cases ht3 : tellX x1 (evB 7) with
      | none => rw [ht3] at h3; cases h3
      | some x3 =>
        rw [ht3] at h3
        obtain ⟨c1, c2, c3, c4, c5⟩ := tell_len ht3
        have c2' : (x3.st.length : Int) = x1.st.length + 1 := by rw [c2]; show _ + dK 7 = _; rw [dK_7]
        have h4 : some { x3 with pos := x3.pos ++ [s] } = some x' := h3
        have e := Option.some.inj h4
        subst e
        refine ⟨by simp only; omega, by simp only; rw [c4, a4], by simp only; rw [c5, a5], by simp only; rw [c3, a3], ?_, fun hk => TkS.of (tkS_tell (tkS_tell hk (okE_T (by decide) hs) ht) (okE_B (by decide)) ht3) rfl rfl⟩
        unfold depX
        simp only
        rw [c4, a4, c3, a3, wtP_snoc, hr]
        simp
        omega
theorem openAll_facts : ∀ (ks : List ByteArray) (x x' : Sx), (∀ k ∈ ks, k.size ≤ 1000) → openAll ks x = some x' → x'.l.length + 3 * x.st.length ≤ x.l.length + 3 * x'.st.length ∧ x'.bs = x.bs ∧ x'.bg = x.bg ∧ depX x' = depX x ∧ (TkS x → TkS x')
  | [], x, x', _, h => by rw [openAll] at h; cases h; exact ⟨Nat.le_refl _, rfl, rfl, rfl, fun h => h⟩
  | k :: r, x, x', hk, h => by
    rw [openAll] at h
    cases h1 : openS (k, false) x with
    | none => rw [h1] at h; cases h
    | some y =>
      rw [h1] at h
      obtain ⟨a1, a2, a3, a4, a5, a6⟩ := openS_facts (hk k (List.mem_cons_self ..)) h1
      obtain ⟨b1, b2, b3, b4, b5⟩ := openAll_facts r y x' (fun q hq => hk q (List.mem_cons_of_mem _ hq)) h
      exact ⟨by omega, by rw [b2, a3], by rw [b3, a4], by rw [b4, a5], fun h => b5 (a6 h)⟩
theorem leadS_le : ∀ (p : List (ByteArray × Bool)) (q : List ByteArray), leadS p q ≤ p.length ∧ leadS p q ≤ q.length
  | [], _ => ⟨by rw [leadS]; exact Nat.le_refl _; intros; simp_all, by rw [leadS]; exact Nat.zero_le _; intros; simp_all⟩
  | s :: p, [] => ⟨by rw [leadS]; exact Nat.zero_le _; intros; simp_all, by rw [leadS]; exact Nat.le_refl _; intros; simp_all⟩
  | s :: p, k :: q => by
    have := leadS_le p q
    rw [leadS]
    split
    · simp only [List.length_cons]; omega
    · exact ⟨Nat.zero_le _, Nat.zero_le _⟩
end Go.Proofs.YtalkjgijmceifaaGreatDoor
namespace Go.Proofs.YtalkjgijmceifaaGreatDoor
open Go.RowKit Go.Maps
set_option maxRecDepth 100000
set_option linter.unusedSimpArgs false
set_option linter.unusedVariables false
set_option linter.unusedSectionVars false
variable [Tab]

section
variable {w w' : World} {f1 f2 : Fo}
/-- The blocks that are foreign now were so, or are new. -/
def FoS (f1 f2 : Fo) (w : World) : Prop := ∀ k, k < w.heap.size → f2.F k → f1.F k
/-- What is of some kinds, and not foreign, lies as it lay. -/
def Mv (f1 : Fo) (p : Obj → Prop) (w w' : World) : Prop := ∀ k o, w.heap[k]? = some o → p o → ¬ f1.F k → w'.heap[k]? = some o
theorem Mv.of_below {p : Obj → Prop} (hb : Below w.heap.size w w') : Mv f1 p w w' := fun k o ho _ _ => (hb.block k (Array.getElem?_eq_some_iff.1 ho).1).trans ho
theorem Mv.narrow {p q : Obj → Prop} (h : Mv f1 p w w') (hq : ∀ o, q o → p o) : Mv f1 q w w' := fun k o ho hp hn => h k o ho (hq o hp) hn
theorem row_ltF {b : Nat} {e : TypeId} {size n : Nat} {v : Value} {xs : List Value} (h : w.ownsRow b e size v n xs) {g : Nat} (hg : v.ownBlock = some g) : g < w.heap.size := (World.ownsRow.lt h g hg).2
theorem row_mv {p : Obj → Prop} {b : Nat} {e : TypeId} {size n : Nat} {v : Value} {xs : List Value} (hm : Mv f1 p w w') (hr : w.ownsRow b e size v n xs) (hn : ∀ g, v.ownBlock = some g → ¬ f1.F g) (hp : ∀ cur, p (.cells cur e (0, 0))) : w'.ownsRow b e size v n xs := by
  refine ⟨hr.1, ?_⟩
  rcases hr.2 with hv | ⟨g, cap, cur, hv, hg, hh, q⟩
  · exact .inl hv
  · exact .inr ⟨g, cap, cur, hv, hg, hm g _ hh (hp _) (hn g (by rw [hv]; rfl)), q⟩
theorem maps_fo (hF : FoS f1 f2 w) {b : Nat} : ∀ {l : List PQ}, @MapsOk f1 w b l → @MapsOk f2 w b l
  | [], _ => trivial
  | q :: r, h => by
    refine ⟨fun k hk => ⟨⟨(h.1 k hk).1.1, fun hc => (h.1 k hk).1.2 (hF k ?_ hc)⟩, (h.1 k hk).2⟩, h.2.1, maps_fo hF h.2.2⟩
    have h2 := h.2.1
    rw [hk] at h2
    obtain ⟨es, c, ho⟩ := SetAt.obj h2
    exact (Array.getElem?_eq_some_iff.1 ho).1
theorem maps_nf {b : Nat} : ∀ {l : List PQ}, @MapsOk f1 w b l → ∀ q ∈ l, ∀ k, q.m = some k → ¬ f1.F k
  | [], _, q, hq => by cases hq
  | p :: r, hm, q, hq => by
    intro k hk
    rcases List.mem_cons.1 hq with rfl | hq
    · exact (hm.1 k hk).1.2
    · exact maps_nf hm.2.2 q hq k hk
theorem crep_mv (hF : FoS f1 f2 w) (hm : Mv f1 cObj w w') (hl : f2.lim ≤ w'.heap.size) {base g rb cap : Nat} {qs : List PQ} (h : @CRep f1 w base g rb cap qs) : @CRep f2 w' base g rb cap qs := by
  obtain ⟨h1, h2, h3, h4, h5, h6, h7⟩ := h
  have hr := row_ltF h3 (g := rb) rfl
  have hnf := maps_nf h4
  have hmp := maps_fo hF h4
  refine @CRep.mk f2 w' base g rb cap qs h1 (hm g _ h2 (.inl rfl) h5) ?_ ?_ ⟨fun hc => h5 (hF g (Blk.lt h2) hc), fun hc => h6 (hF rb hr hc), hl⟩
  · exact row_mv hm h3 (fun k hk hc => by have e : rb = k := Option.some.inj hk; exact h6 (e ▸ hc)) (fun _ => .inr rfl)
  · refine @MapsOk.keep _ f2 w w' base qs hmp fun q hq b hqb hbm => ?_
    obtain ⟨es, c, ho⟩ := hbm
    rw [hm b _ ho trivial (hnf q hq b hqb), ho]
theorem crep_fo (hF : FoS f1 f2 w) (hb : Below w.heap.size w w') (hl : f2.lim ≤ w'.heap.size) {base g rb cap : Nat} {qs : List PQ} (h : @CRep f1 w base g rb cap qs) : @CRep f2 w' base g rb cap qs := crep_mv hF (Mv.of_below hb) hl h
theorem rowt_mv (hk : f2.tk = f1.tk) (hm : Mv f1 eObj w w') {base : Nat} {v : Value} {l : List Ev} (h : @RowT f1 w base v l) (hn : @NF f1 v) : @RowT f2 w' base v l := by
  have hk' : ∀ g o, v.ownBlock = some g → w.heap[g]? = some o → w'.heap[g]? = some o := fun g o hg ho => by
    obtain ⟨_, _, cur, hc⟩ := @RowT.obj _ f1 _ _ _ _ h g hg
    have e := ho
    rw [hc] at e
    injection e with e
    exact hm g o ho (by rw [← e]; rfl) (hn g hg)
  have h2 := @RowT.frame _ f1 _ w' _ _ _ h hk'
  rcases h2 with ⟨h0, h2⟩ | ⟨n, h0, h1, h2⟩
  · exact .inl ⟨hk.trans h0, h2⟩
  · exact .inr ⟨n, hk.trans h0, h1, h2⟩
theorem oat_mv (hF : FoS f1 f2 w) (hk : f2.tk = f1.tk) (hm : Mv f1 tObj w w') (hl : f2.lim ≤ w'.heap.size) {base o ck : Nat} {st : List Pt} {l : List Ev} (h : @OAt f1 w base o ck st l) : @OAt f2 w' base o ck st l := by
  obtain ⟨⟨lv, hB, hR, hf⟩, ⟨rb, cap, qs, hq, hC⟩, hbo, ho⟩ := h
  exact @OAt.mk f2 w' base o ck st l ⟨lv, hm o _ hB (.inr (.inr (.inl rfl))) ho, rowt_mv hk (hm.narrow fun _ => e_of_t) hR hf, fun g hg hc => hf g hg (hF g (@RowT.lt _ f1 _ _ _ _ hR g hg).2 hc)⟩ ⟨rb, cap, qs, hq, crep_mv hF (hm.narrow fun _ => c_of_t) hl hC⟩ hbo fun hc => ho (hF o (Blk.lt hB) hc)
theorem oat_fo (hF : FoS f1 f2 w) (hk : f2.tk = f1.tk) (hb : Below w.heap.size w w') (hl : f2.lim ≤ w'.heap.size) {base o ck : Nat} {st : List Pt} {l : List Ev} (h : @OAt f1 w base o ck st l) : @OAt f2 w' base o ck st l := oat_mv hF hk (Mv.of_below hb) hl h
theorem tch_wk {f1 f2 : Fo} (hF : ∀ k, f2.F k → f1.F k) {c : Nat} {p : Obj → Prop} (h : @Tch f1 c p w w') : @Tch f2 c p w w' :=
  @Tch.mk f2 c p w w' (@Tch.os f1 _ _ _ _ h) (@Tch.tape f1 _ _ _ _ h) (@Tch.output f1 _ _ _ _ h) (@Tch.size f1 _ _ _ _ h) (fun k o ho hc => @Tch.block f1 _ _ _ _ h k o ho (hc.imp id (Or.imp id (hF k))))
/-- The same foreign blocks, and those that were made since. -/
@[reducible] def Fo.since (fo : Fo) (w w1 : World) (hl : fo.lim ≤ w1.heap.size) : Fo :=
  ⟨fun k => fo.F k ∨ (w.heap.size ≤ k ∧ k < w1.heap.size), w1.heap.size, fun k h => by
    rcases h with h | h
    · exact Nat.lt_of_lt_of_le (fo.ok k h) hl
    · exact h.2, fo.tk⟩
/-- Tell: what was made since lies as it lay. -/
theorem tell_new [fo : Fo] {w w1 : World} {base o ck : Nat} {st : List Pt} {l : List Ev} (x : Ev) (h : OAt w base o ck st l) (hb1 : Below w.heap.size w w1) (hg : Good st) (hw : NumW x.k w1) (hs : x.t.size ≤ 140737488355328) (hl : l.length ≤ 1000000) (hb : base ≤ w.heap.size) (hlim : Fo.lim ≤ w.heap.size) :
    Calls Tryz.prog 149 #[.pointer (some ⟨o, 0, none⟩), .agg #[.int .i64 x.k, .string x.t, .string x.v], .slice none 0 0] w1 fun e w' => e = .returned (.int .i64 (stepE st x)) ∧ OAt w' base o ck (stepS st x) (tellL st l x) ∧ Tch base tObj w w' ∧ ∀ k q, w.heap.size ≤ k → w1.heap[k]? = some q → w'.heap[k]? = some q := by
  have hl1 : fo.lim ≤ w1.heap.size := Nat.le_trans hlim hb1.size
  have hO : @OAt (Fo.since fo w w1 hl1) w1 base o ck st l := oat_fo (f1 := fo) (f2 := Fo.since fo w w1 hl1) (fun k hk hc => by
    rcases hc with hc | hc
    · exact hc
    · omega) rfl hb1 (Nat.le_refl _) h
  refine (@tell_any _ (Fo.since fo w w1 hl1) w1 base o ck st l x hO hg hw hs hl (Nat.le_trans hb hb1.size)).mono ?_
  rintro e w' ⟨rfl, hO', hT⟩
  have hT1 : Tch base tObj w1 w' := tch_wk (f1 := Fo.since fo w w1 hl1) (f2 := fo) (fun k hk => .inl hk) hT
  refine ⟨rfl, oat_fo (f1 := Fo.since fo w w1 hl1) (f2 := fo) (fun k _ hc => .inl hc) rfl (Below.refl _ _) (Nat.le_trans hl1 hT1.size) hO', (Tch.of_below hb1).trans hT1, fun k q hk hq => ?_⟩
  exact @Tch.block (Fo.since fo w w1 hl1) _ _ _ _ hT k q hq (.inr (.inr (.inr ⟨hk, (Array.getElem?_eq_some_iff.1 hq).1⟩)))
end
end Go.Proofs.YtalkjgijmceifaaGreatDoor
