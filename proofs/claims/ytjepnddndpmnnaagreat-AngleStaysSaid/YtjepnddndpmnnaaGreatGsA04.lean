/-
  The events of documents as plain functions: which events are allowed, the machine of what is open, its run. No program is read here.
  An event told to a Check: what waits then. Plain functions; no program is read here.
  Scopes as plain functions: scopes innermost first, each with what it binds, newest first; and the reference's one list. No program is read here.
  Entities as plain functions on bytes: what is defined, asked, filled in. No program is read here.
-/
import Derived.Test.YtjepnddndpmnnaaGreatGsA02
import Derived.Test.YtjepnddndpmnnaaGreatGsA03
namespace Go.Proofs.YtjepnddndpmnnaaGreat
set_option linter.unusedSectionVars false
variable [Tab]

structure Ev where
  k : Int
  t : ByteArray
  v : ByteArray
structure Pt where
  kind : Int
  last : Int
  keys : List (List UInt8)
def topP : Pt := ⟨0, 0, []⟩

def validL (l : List UInt8) : Bool := decide (l.length ≤ 48) && (runesL l).isSome
def normL (l : List UInt8) : Bool := match Nm.readL l with | some v => decide (Nm.formL v = l) | none => false
def bareK (k : Int) : Bool := decide (k = 1 ∨ k = 5 ∨ k = 6 ∨ k = 7 ∨ k = 9 ∨ k = 12)
def opensK (k : Int) : Bool := decide (k = 5 ∨ k = 7 ∨ k = 10)
def endsK (k : Int) : Bool := decide (k = 6 ∨ k = 9 ∨ k = 12)
def valueK (k : Int) : Bool := decide (k = 1 ∨ k = 2 ∨ k = 3 ∨ k = 4 ∨ k = 5 ∨ k = 7 ∨ k = 10)
def emptyT (s : ByteArray) : Bool := decide (s.data.toList = [])
def fullL (l : List UInt8) : Bool := (cutL l).isSome
/-- 'true', 'false'. -/
def boolL (l : List UInt8) : Bool := decide (l = [116, 114, 117, 101]) || decide (l = [102, 97, 108, 115, 101])
def formedB (x : Ev) : Bool :=
  if bareK x.k then emptyT x.t && emptyT x.v
  else if x.k = 2 then emptyT x.v && boolL x.t.data.toList
  else if x.k = 3 then emptyT x.v && normL x.t.data.toList
  else if x.k = 4 ∨ x.k = 8 then emptyT x.v && validL x.t.data.toList
  else if x.k = 10 then emptyT x.v && fullL x.t.data.toList
  else if x.k = 11 then validL x.v.data.toList && fullL x.t.data.toList
  else false
def contElem (last k : Int) (te : Bool) : Bool :=
  if k = 11 then decide (last = 0 ∨ last = 11) else if k = 4 then decide (last ≠ 4) && !te else decide (k = 10 ∨ k = 12)
def contB (kind last k : Int) (te : Bool) : Bool :=
  if kind = 5 then valueK k || decide (k = 6)
  else if kind = 7 then (if last = 8 then valueK k else decide (k = 8 ∨ k = 9))
  else if kind = 10 then contElem last k te
  else decide (last = 0) && valueK k

def stepE : List Pt → Ev → Int
  | [], _ => 19
  | p :: r, x =>
    if formedB x = false ∨ contB p.kind p.last x.k (emptyT x.t) = false then 19
    else if endsK x.k then 0
    else if opensK x.k then (if 6 ≤ r.length then 5 else 0)
    else if x.k = 8 ∨ x.k = 11 then (if x.t.data.toList ∈ p.keys then 6 else if 10 ≤ p.keys.length then 7 else 0)
    else 0
def goS : List Pt → Ev → List Pt
  | [], _ => []
  | p :: r, x =>
    if endsK x.k then r
    else if opensK x.k then ⟨x.k, 0, []⟩ :: { p with last := x.k } :: r
    else if x.k = 8 ∨ x.k = 11 then { p with last := x.k, keys := x.t.data.toList :: p.keys } :: r
    else { p with last := x.k } :: r
def stepS (st : List Pt) (x : Ev) : List Pt := if stepE st x = 0 then goS st x else st
def doneB : List Pt → Bool
  | [p] => decide (p.last ≠ 0)
  | _ => false

/-- What lies around the innermost part. -/
def Outer : List Pt → Prop
  | [] => False
  | [p] => p.kind = 0 ∧ p.keys = [] ∧ (p.last = 0 ∨ valueK p.last = true)
  | p :: q :: r => opensK p.kind = true ∧ opensK q.last = true ∧ Outer (q :: r)
def Good (st : List Pt) : Prop := Outer st ∧ st.length ≤ 7

theorem good_start : Good [topP] := ⟨⟨rfl, rfl, .inl rfl⟩, by simp⟩
theorem Good.ne {st : List Pt} (h : Good st) : ∃ p r, st = p :: r := by
  cases st with
  | nil => exact h.1.elim
  | cons p r => exact ⟨p, r, rfl⟩
theorem opens_value {k : Int} (h : opensK k = true) : valueK k = true := by
  unfold opensK at h; unfold valueK; rw [decide_eq_true_iff] at h ⊢; omega
theorem outer_last {p : Pt} {r : List Pt} (h : Outer (p :: r)) (k : Int) (hk : r ≠ [] ∨ valueK k = true) (ks : List (List UInt8)) (hks : r ≠ [] ∨ ks = []) : Outer ({ p with last := k, keys := ks } :: r) := by
  cases r with
  | nil =>
    rcases hk with hk | hk
    · exact absurd rfl hk
    · rcases hks with hks | hks
      · exact absurd rfl hks
      · exact ⟨h.1, hks, .inr hk⟩
  | cons q r => exact ⟨h.1, h.2.1, h.2.2⟩
theorem outer_last' {p : Pt} {r : List Pt} (h : Outer (p :: r)) (k : Int) (hk : r ≠ [] ∨ valueK k = true) : Outer ({ p with last := k } :: r) := by
  cases r with
  | nil =>
    rcases hk with hk | hk
    · exact absurd rfl hk
    · exact ⟨h.1, h.2.1, .inr hk⟩
  | cons q r => exact ⟨h.1, h.2.1, h.2.2⟩
/-- At the top only a value may follow. -/
theorem top_cont {p : Pt} (h : Outer [p]) {k : Int} {te : Bool} (hc : contB p.kind p.last k te = true) : p.last = 0 ∧ valueK k = true := by
  unfold contB at hc
  rw [h.1, if_neg (by decide), if_neg (by decide), if_neg (by decide), Bool.and_eq_true, decide_eq_true_iff] at hc
  exact hc
theorem cont_of {p : Pt} {r : List Pt} {x : Ev} (h : stepE (p :: r) x = 0) : formedB x = true ∧ contB p.kind p.last x.k (emptyT x.t) = true := by
  simp only [stepE] at h
  split at h
  · exact absurd h (by decide)
  · rename_i hn
    rw [not_or, Bool.not_eq_false, Bool.not_eq_false] at hn
    exact hn
theorem ends_not_value {k : Int} (h : endsK k = true) : valueK k = false := by
  unfold endsK at h; unfold valueK; rw [decide_eq_true_iff] at h; rw [decide_eq_false_iff_not]; omega
theorem depth_of {p : Pt} {r : List Pt} {x : Ev} (h : stepE (p :: r) x = 0) (ho : opensK x.k = true) : r.length < 6 := by
  have hc := cont_of h
  simp only [stepE] at h
  rw [if_neg (by rw [hc.1, hc.2]; decide), if_neg (by unfold opensK at ho; unfold endsK; rw [decide_eq_true_iff] at ho ⊢; omega), if_pos ho] at h
  split at h
  · exact absurd h (by decide)
  · omega
theorem good_step {st : List Pt} (hg : Good st) (x : Ev) : Good (stepS st x) := by
  unfold stepS
  by_cases h : stepE st x = 0
  · rw [if_pos h]
    obtain ⟨p, r, rfl⟩ := hg.ne
    obtain ⟨hf, hc⟩ := cont_of h
    obtain ⟨ho, hl⟩ := hg
    have hl' : r.length ≤ 6 := by simpa using hl
    simp only [goS]
    by_cases h1 : endsK x.k = true
    · rw [if_pos h1]
      cases r with
      | nil =>
        have := (top_cont ho hc).2
        rw [ends_not_value h1] at this
        cases this
      | cons q r => exact ⟨ho.2.2, by simp at hl' ⊢; omega⟩
    · rw [if_neg h1]
      by_cases h2 : opensK x.k = true
      · rw [if_pos h2]
        exact ⟨⟨h2, h2, outer_last' ho _ (.inr (opens_value h2))⟩, by have := depth_of h h2; simp; omega⟩
      · rw [if_neg h2]
        by_cases h3 : x.k = 8 ∨ x.k = 11
        · rw [if_pos h3]
          have hr : r ≠ [] := by
            rintro rfl
            have := (top_cont ho hc).2
            unfold valueK at this
            rw [decide_eq_true_iff] at this
            omega
          exact ⟨outer_last ho _ (.inl hr) _ (.inl hr), hl⟩
        · rw [if_neg h3]
          refine ⟨outer_last' ho _ ?_, hl⟩
          by_cases hr : r = []
          · subst hr; exact .inr (top_cont ho hc).2
          · exact .inl hr
  · rw [if_neg h]
    exact hg

/-- The run over a list: where it stops, and with which error. -/
def runS (st : List Pt) (l : List Ev) : List Pt := l.foldl stepS st
def allOk : List Pt → List Ev → Prop
  | _, [] => True
  | st, x :: l => stepE st x = 0 ∧ allOk (stepS st x) l
def wholeGo (i : Nat) (st : List Pt) : List Ev → Nat × Int
  | [] => (i, if doneB st then 0 else 19)
  | x :: l => if stepE st x = 0 then wholeGo (i + 1) (stepS st x) l else (i, stepE st x)
def wholeN (l : List Ev) : Nat := (wholeGo 0 [topP] l).1
def wholeE (l : List Ev) : Int := (wholeGo 0 [topP] l).2

theorem runS_snoc (st : List Pt) (l : List Ev) (x : Ev) : runS st (l ++ [x]) = stepS (runS st l) x := by simp [runS]
theorem good_run {st : List Pt} (h : Good st) (l : List Ev) : Good (runS st l) := by
  induction l generalizing st with
  | nil => exact h
  | cons x l ih => exact ih (good_step h x)
theorem allOk_snoc : ∀ (st : List Pt) (l : List Ev) (x : Ev), allOk st (l ++ [x]) ↔ allOk st l ∧ stepE (runS st l) x = 0
  | st, [], x => by simp [allOk, runS]
  | st, y :: l, x => by
    have := allOk_snoc (stepS st y) l x
    simp only [List.cons_append, allOk, this, and_assoc]
    rfl
theorem whole_run : ∀ (i : Nat) (st : List Pt) (l m : List Ev), allOk st l → wholeGo i st (l ++ m) = wholeGo (i + l.length) (runS st l) m
  | i, st, [], m, _ => rfl
  | i, st, x :: l, m, h => by
    have := whole_run (i + 1) (stepS st x) l m h.2
    simp only [List.cons_append, wholeGo, if_pos h.1, this, List.length_cons]
    congr 1
    omega
theorem whole_ok {l : List Ev} (h : wholeE l = 0) : allOk [topP] l ∧ doneB (runS [topP] l) = true := by
  have key : ∀ (l : List Ev) (i : Nat) (st : List Pt), (wholeGo i st l).2 = 0 → allOk st l ∧ doneB (runS st l) = true := by
    intro l
    induction l with
    | nil =>
      intro i st h
      simp only [wholeGo] at h
      split at h
      · rename_i hd; exact ⟨trivial, hd⟩
      · exact absurd h (by decide)
    | cons x l ih =>
      intro i st h
      simp only [wholeGo] at h
      split at h
      · rename_i h0
        have := ih _ _ h
        exact ⟨⟨h0, this.1⟩, this.2⟩
      · rename_i h0; exact absurd h h0
  exact key l 0 _ h
theorem whole_of {l : List Ev} (h : allOk [topP] l) : wholeGo 0 [topP] l = (l.length, if doneB (runS [topP] l) then 0 else 19) := by
  have := whole_run 0 [topP] l [] h
  rw [List.append_nil] at this
  rw [this]
  simp [wholeGo]

/-- Behind a whole document nothing follows. -/
theorem done_stop {st : List Pt} (h : doneB st = true) (hg : Good st) (x : Ev) : stepE st x = 19 := by
  match st, h with
  | [p], h =>
    simp only [doneB, decide_eq_true_iff] at h
    simp only [stepE]
    by_cases hc : formedB x = false ∨ contB p.kind p.last x.k (emptyT x.t) = false
    · rw [if_pos hc]
    · rw [not_or, Bool.not_eq_false, Bool.not_eq_false] at hc
      exact absurd (top_cont hg.1 hc.2).1 h
theorem begins_pure {l : List Ev} (h : wholeE l = 0) {c : Nat} (hc : c < l.length) : wholeGo 0 [topP] (l.take c) = (c, 19) := by
  obtain ⟨ha, _⟩ := whole_ok h
  have e : l = l.take c ++ l[c] :: l.drop (c + 1) := by rw [← List.drop_eq_getElem_cons hc, List.take_append_drop]
  have key : ∀ (a b : List Ev) (x : Ev) (st : List Pt), allOk st (a ++ x :: b) → allOk st a ∧ stepE (runS st a) x = 0 := by
    intro a
    induction a with
    | nil => intro b x st h; exact ⟨trivial, h.1⟩
    | cons y a ih => intro b x st h; exact ⟨⟨h.1, (ih b x _ h.2).1⟩, (ih b x _ h.2).2⟩
  rw [e] at ha
  obtain ⟨h1, h2⟩ := key _ _ _ _ ha
  rw [whole_of h1, List.length_take, Nat.min_eq_left (by omega)]
  have hd : doneB (runS [topP] (l.take c)) = false := by
    rw [Bool.eq_false_iff]
    intro hd
    rw [done_stop hd (good_run good_start _)] at h2
    exact absurd h2 (by decide)
  rw [hd]
  rfl
theorem whole_nil : wholeGo 0 [topP] [] = (0, 19) := rfl

/-! A step's depth. -/
theorem depth_step {st : List Pt} (hg : Good st) (x : Ev) : (stepS st x).length ≤ st.length + 1 ∧ st.length ≤ (stepS st x).length + 1 ∧ (stepE st x ≠ 0 → (stepS st x).length = st.length) ∧ (stepE st x = 5 → (stepS st x).length = 7) := by
  unfold stepS
  by_cases h : stepE st x = 0
  · rw [if_pos h]
    obtain ⟨p, r, rfl⟩ := hg.ne
    refine ⟨?_, ?_, fun hn => absurd h hn, fun h5 => by rw [h] at h5; exact absurd h5 (by decide)⟩
    · simp only [goS]; repeat' split
      all_goals first | (simp; done) | (simp; omega)
    · simp only [goS]; repeat' split
      all_goals first | (simp; done) | (simp; omega)
  · rw [if_neg h]
    refine ⟨by omega, by omega, fun _ => rfl, fun h5 => ?_⟩
    obtain ⟨p, r, rfl⟩ := hg.ne
    have hl := hg.2
    simp only [stepE] at h5
    repeat' split at h5
    all_goals first
      | (exfalso; exact absurd h5 (by decide))
      | (simp at hl ⊢; omega)
end Go.Proofs.YtjepnddndpmnnaaGreat
namespace Go.Proofs.YtjepnddndpmnnaaGreat
set_option linter.unusedSectionVars false
variable [Tab]
def tellL (st : List Pt) (l : List Ev) (x : Ev) : List Ev := if stepE st x = 0 then l ++ [x] else l
theorem tellL_len (st : List Pt) (l : List Ev) (x : Ev) : (tellL st l x).length ≤ l.length + 1 := by
  unfold tellL; split <;> simp
/-- An event of a kind alone. -/
def bare (k : Int) : Ev := ⟨k, ⟨#[]⟩, ⟨#[]⟩⟩
theorem bare_size (k : Int) : (bare k).t.size ≤ 140737488355328 := Nat.zero_le _
end Go.Proofs.YtjepnddndpmnnaaGreat
namespace Go.Proofs.YtjepnddndpmnnaaGreat.Ns
set_option maxRecDepth 8000

abbrev Sc := List (List UInt8 × List UInt8)
abbrev St := List Sc

def lookP (p : List UInt8) : Sc → Option (List UInt8)
  | [] => none
  | x :: r => if x.1 = p then some x.2 else lookP p r
def spaceS (p : List UInt8) : St → Option (List UInt8)
  | [] => none
  | m :: r => (lookP p m).orElse fun _ => spaceS p r
def mayP (p s : List UInt8) : Bool := if s = [] then decide (p = []) else spaceL s && (decide (p = []) || localL p)
def bindE (p s : List UInt8) : St → Int
  | [] => 1
  | m :: _ => if mayP p s = false then 1 else if (lookP p m).isSome = true then 6 else if 10 ≤ m.length then 7 else 0
def bindS (p s : List UInt8) : St → St
  | [] => []
  | m :: r => if bindE p s (m :: r) = 0 then ((p, s) :: m) :: r else m :: r
def closeE : St → Int
  | [] => 21
  | _ :: _ => 0
def closeS : St → St
  | [] => []
  | _ :: r => r

structure Pr where
  p : List UInt8
  s : List UInt8
  n : Nat
def tag (n : Nat) (m : Sc) : List Pr := m.map fun x => ⟨x.1, x.2, n⟩
/-- The reference's list, newest first. -/
def flat : St → List Pr
  | [] => []
  | m :: r => tag (r.length + 1) m ++ flat r
/-- The reference's list as it stands. -/
def refL (st : St) : List Pr := (flat st).reverse
def find3 (p : List UInt8) : List Pr → Option (List UInt8)
  | [] => none
  | x :: r => if x.p = p then some x.s else find3 p r

theorem find_tag (p : List UInt8) (n : Nat) (m : Sc) (l : List Pr) : find3 p (tag n m ++ l) = (lookP p m).orElse fun _ => find3 p l := by
  induction m with
  | nil => rfl
  | cons x m ih =>
    simp only [tag, List.map_cons, List.cons_append, find3, lookP] at ih ⊢
    by_cases h : x.1 = p
    · rw [if_pos h, if_pos h]; rfl
    · rw [if_neg h, if_neg h]; exact ih
theorem find_flat (p : List UInt8) (st : St) : find3 p (flat st) = spaceS p st := by
  induction st with
  | nil => rfl
  | cons m r ih =>
    simp only [flat, spaceS]
    rw [find_tag, ih]
theorem flat_rest (st : St) : ∀ x ∈ flat st, x.n ≤ st.length ∧ 1 ≤ x.n := by
  induction st with
  | nil => intro x hx; cases hx
  | cons m r ih =>
    intro x hx
    simp only [flat, tag] at hx
    rcases List.mem_append.1 hx with hx | hx
    · obtain ⟨y, _, rfl⟩ := List.mem_map.1 hx
      simp
    · have := ih x hx
      simp only [List.length_cons]
      omega
theorem refL_cons (m : Sc) (r : St) : refL (m :: r) = refL r ++ (tag (r.length + 1) m).reverse := by simp [refL, flat]
theorem refL_open (st : St) : refL ([] :: st) = refL st := by rw [refL_cons]; simp [tag]
theorem refL_bind (p s : List UInt8) (m : Sc) (r : St) : refL (((p, s) :: m) :: r) = refL (m :: r) ++ [⟨p, s, r.length + 1⟩] := by rw [refL_cons, refL_cons]; simp [tag]
theorem refL_rest (st : St) : ∀ x ∈ refL st, x.n ≤ st.length ∧ 1 ≤ x.n := fun x hx => flat_rest st x (List.mem_reverse.1 hx)
theorem filter_close (m : Sc) (r : St) : (refL (m :: r)).filter (fun x => decide (x.n < r.length + 1)) = refL r := by
  rw [refL_cons, List.filter_append]
  have e1 : (refL r).filter (fun x => decide (x.n < r.length + 1)) = refL r := by
    rw [List.filter_eq_self]
    intro x hx
    have := refL_rest r x hx
    simp
    omega
  have e2 : ((tag (r.length + 1) m).reverse).filter (fun x => decide (x.n < r.length + 1)) = [] := by
    rw [List.filter_eq_nil_iff]
    intro x hx
    have := List.mem_reverse.1 hx
    simp only [tag] at this
    obtain ⟨y, _, rfl⟩ := List.mem_map.1 this
    simp
  rw [e1, e2, List.append_nil]

/-- How many of them stand in the innermost scope; and whether one of those binds p. -/
def inner (n : Nat) (l : List Pr) : Nat := (l.filter fun x => decide (x.n = n)).length
def boundIn (n : Nat) (p : List UInt8) (l : List Pr) : Bool := l.any fun x => decide (x.n = n) && decide (x.p = p)
theorem inner_refL (m : Sc) (r : St) : inner (r.length + 1) (refL (m :: r)) = m.length := by
  unfold inner
  rw [refL_cons, List.filter_append]
  have e1 : (refL r).filter (fun x => decide (x.n = r.length + 1)) = [] := by
    rw [List.filter_eq_nil_iff]
    intro x hx
    have := refL_rest r x hx
    simp
    omega
  have e2 : ((tag (r.length + 1) m).reverse).filter (fun x => decide (x.n = r.length + 1)) = (tag (r.length + 1) m).reverse := by
    rw [List.filter_eq_self]
    intro x hx
    have := List.mem_reverse.1 hx
    simp only [tag] at this
    obtain ⟨y, _, rfl⟩ := List.mem_map.1 this
    simp
  rw [e1, e2]
  simp [tag]
theorem any_tag (p : List UInt8) (n : Nat) (m : Sc) : (tag n m).any (fun x => decide (x.n = n) && decide (x.p = p)) = (lookP p m).isSome := by
  induction m with
  | nil => rfl
  | cons x m ih =>
    simp only [tag, List.map_cons, List.any_cons, lookP] at ih ⊢
    rw [ih]
    by_cases h : x.1 = p
    · simp [h]
    · simp [h]
theorem bound_refL (p : List UInt8) (m : Sc) (r : St) : boundIn (r.length + 1) p (refL (m :: r)) = (lookP p m).isSome := by
  unfold boundIn
  rw [refL_cons, List.any_append, List.any_reverse, any_tag]
  have e1 : (refL r).any (fun x => decide (x.n = r.length + 1) && decide (x.p = p)) = false := by
    rw [List.any_eq_false]
    intro x hx
    have := refL_rest r x hx
    simp
    omega
  rw [e1, Bool.false_or]
theorem inner_snoc (n : Nat) (l : List Pr) (x : Pr) : inner n (l ++ [x]) = inner n l + if x.n = n then 1 else 0 := by
  unfold inner
  rw [List.filter_append, List.length_append]
  by_cases h : x.n = n <;> simp [h]
theorem inner_le (n : Nat) (l : List Pr) : inner n l ≤ l.length := List.length_filter_le _ _
theorem bound_snoc (n : Nat) (p : List UInt8) (l : List Pr) (x : Pr) : boundIn n p (l ++ [x]) = (boundIn n p l || (decide (x.n = n) && decide (x.p = p))) := by
  unfold boundIn
  rw [List.any_append]
  simp
/-- All that is kept is short. -/
def Small (st : St) : Prop := ∀ m ∈ st, m.length ≤ 10
theorem bind_len (p s : List UInt8) (st : St) : (bindS p s st).length = st.length := by
  cases st with
  | nil => rfl
  | cons m r => simp only [bindS]; split <;> rfl
theorem refL_bind_len (p s : List UInt8) (st : St) : (refL (bindS p s st)).length ≤ (refL st).length + 1 := by
  cases st with
  | nil => simp [bindS]
  | cons m r =>
    simp only [bindS]
    split
    · rw [refL_bind]; simp
    · omega
theorem refL_close_len (st : St) : (refL (closeS st)).length ≤ (refL st).length := by
  cases st with
  | nil => simp [closeS]
  | cons m r => simp only [closeS]; rw [refL_cons]; simp
end Go.Proofs.YtjepnddndpmnnaaGreat.Ns
namespace Go.Proofs.YtjepnddndpmnnaaGreat
set_option maxRecDepth 8000

abbrev EnL := List (List UInt8 × List UInt8)
def fourE (n : List UInt8) : Option (List UInt8) :=
  if n = [108, 116] then some [60] else if n = [103, 116] then some [62] else if n = [97, 109, 112] then some [38] else if n = [113, 117, 111, 116] then some [34] else none
def findE (n : List UInt8) : EnL → Option (List UInt8)
  | [] => none
  | x :: L => if x.1 = n then some x.2 else findE n L
def sizeE : EnL → Nat
  | [] => 0
  | x :: L => x.1.length + x.2.length + sizeE L
def defC (L : EnL) (n t : List UInt8) : Int :=
  if localL n = false then 1 else if (runesL t).isSome = false then 3 else if (fourE n).isSome || (findE n L).isSome then 6 else if 200 < sizeE L + n.length + t.length then 15 else 0
def defE (L : EnL) (n t : List UInt8) : EnL := if defC L n t = 0 then L ++ [(n, t)] else L
/-- What Get tells: the text, the error, how many were told behind it. -/
structure GR where
  s : List UInt8
  e : Int
  told : Nat
def getE (L : EnL) (told : Nat) (n : List UInt8) : GR :=
  match fourE n with
  | some t => ⟨t, 0, told⟩
  | none => match findE n L with
    | none => ⟨[], 14, told⟩
    | some t => if 40 ≤ told then ⟨[], 13, told⟩ else ⟨t, 0, told + 1⟩
/-- The reference behind a &: its name, or none; how many bytes stand ahead of the byte that ends it, or with which none goes on. -/
def refE (acc : List UInt8) : List UInt8 → Option (List UInt8) × Nat
  | [] => (none, 0)
  | c :: t => if localL (acc ++ [c]) = true then ((refE (acc ++ [c]) t).1, (refE (acc ++ [c]) t).2 + 1) else if c = 59 ∧ acc ≠ [] then (some acc, 0) else (none, 0)
structure FR where
  s : List UInt8
  e : Int
  n : Nat
  told : Nat
def fillE (L : EnL) : Nat → List UInt8 → Nat → List UInt8 → Nat → FR
  | 0, _, at_, out, told => ⟨out, 0, at_, told⟩
  | _ + 1, [], at_, out, told => ⟨out, 0, at_, told⟩
  | f + 1, c :: t, at_, out, told =>
    if c ≠ 38 then fillE L f t (at_ + 1) (out ++ [c]) told
    else match (refE [] t).1 with
      | none => ⟨[], 2, at_ + 1 + (refE [] t).2, told⟩
      | some nm => if (getE L told nm).e = 0 then fillE L f (t.drop ((refE [] t).2 + 1)) (at_ + 1 + (refE [] t).2 + 1) (out ++ (getE L told nm).s) (getE L told nm).told
        else ⟨[], (getE L told nm).e, at_ + 1 + (refE [] t).2, (getE L told nm).told⟩
def fillL (L : EnL) (raw : List UInt8) (told : Nat) : FR := fillE L raw.length raw 0 [] told

theorem fill_byte {L : EnL} {f : Nat} {c : UInt8} {t : List UInt8} {at_ : Nat} {out : List UInt8} {told : Nat} (h : c ≠ 38) : fillE L (f + 1) (c :: t) at_ out told = fillE L f t (at_ + 1) (out ++ [c]) told := by
  simp only [fillE]; rw [if_pos h]
theorem fill_bad {L : EnL} {f : Nat} {t : List UInt8} {at_ : Nat} {out : List UInt8} {told : Nat} (h : (refE [] t).1 = none) : fillE L (f + 1) (38 :: t) at_ out told = ⟨[], 2, at_ + 1 + (refE [] t).2, told⟩ := by
  simp only [fillE]; rw [if_neg (by decide), h]
theorem fill_no {L : EnL} {f : Nat} {t : List UInt8} {at_ : Nat} {out : List UInt8} {told : Nat} {nm : List UInt8} (h : (refE [] t).1 = some nm) (he : (getE L told nm).e ≠ 0) :
    fillE L (f + 1) (38 :: t) at_ out told = ⟨[], (getE L told nm).e, at_ + 1 + (refE [] t).2, (getE L told nm).told⟩ := by
  simp only [fillE]; rw [if_neg (by decide), h]; simp only; rw [if_neg he]
theorem fill_ref {L : EnL} {f : Nat} {t : List UInt8} {at_ : Nat} {out : List UInt8} {told : Nat} {nm : List UInt8} (h : (refE [] t).1 = some nm) (he : (getE L told nm).e = 0) :
    fillE L (f + 1) (38 :: t) at_ out told = fillE L f (t.drop ((refE [] t).2 + 1)) (at_ + 1 + (refE [] t).2 + 1) (out ++ (getE L told nm).s) (getE L told nm).told := by
  simp only [fillE]; rw [if_neg (by decide), h]; simp only; rw [if_pos he]
theorem fill_end {L : EnL} {f : Nat} {at_ : Nat} {out : List UInt8} {told : Nat} : fillE L f [] at_ out told = ⟨out, 0, at_, told⟩ := by
  cases f <;> rfl

theorem local_semi (acc : List UInt8) : localL (acc ++ [59]) = false := by
  cases acc with
  | nil => decide
  | cons c t =>
    simp only [List.cons_append, localL]
    rw [List.all_append]
    simp [laterB]
/-- The beginnings of a local name are local names. -/
theorem local_pre {a b : List UInt8} (ha : a ≠ []) (h : localL (a ++ b) = true) : localL a = true := by
  cases a with
  | nil => exact absurd rfl ha
  | cons c t =>
    simp only [List.cons_append, localL, Bool.and_eq_true, decide_eq_true_eq, List.all_append, List.length_append] at h ⊢
    exact ⟨⟨by omega, h.1.2⟩, h.2.1⟩
theorem ref_name : ∀ (b acc rest : List UInt8), acc ++ b ≠ [] → localL (acc ++ b) = true → refE acc (b ++ 59 :: rest) = (some (acc ++ b), b.length)
  | [], acc, rest, hne, h => by
    rw [List.append_nil] at hne
    simp only [List.nil_append, refE, List.append_nil, List.length_nil]
    rw [if_neg (by rw [local_semi]; decide), if_pos ⟨trivial, hne⟩]
  | c :: t, acc, rest, _, h => by
    have h1 : localL (acc ++ [c]) = true := local_pre (b := t) (by simp) (by simpa using h)
    have ih := ref_name t (acc ++ [c]) rest (by simp) (by simpa using h)
    simp only [List.cons_append, refE]
    rw [if_pos h1, ih]
    simp
theorem ref_is {nm rest : List UInt8} (h : localL nm = true) : refE [] (nm ++ 59 :: rest) = (some nm, nm.length) := by
  have hn : nm ≠ [] := by intro e; subst e; cases h
  have := ref_name nm [] rest (by simpa using hn) (by simpa using h)
  simpa using this

/-- How far a reference reaches. -/
theorem ref_le : ∀ (l acc : List UInt8), (refE acc l).2 ≤ l.length
  | [], _ => Nat.le_refl _
  | c :: t, acc => by
    simp only [refE]
    split
    · have := ref_le t (acc ++ [c]); simp only [List.length_cons]; omega
    · split <;> simp
theorem ref_lt : ∀ (l acc nm : List UInt8), (refE acc l).1 = some nm → (refE acc l).2 < l.length
  | [], _, _, h => by cases h
  | c :: t, acc, nm, h => by
    simp only [refE] at h ⊢
    split at h
    · rename_i hl
      rw [if_pos hl]
      have := ref_lt t (acc ++ [c]) nm h
      simp only [List.length_cons]; omega
    · rename_i hl
      rw [if_neg hl]
      split <;> simp

/-- Where no & is nothing changes. -/
theorem fill_plain (L : EnL) : ∀ (l : List UInt8) (f at_ : Nat) (out : List UInt8) (told : Nat), (∀ c ∈ l, c ≠ 38) → l.length ≤ f → fillE L f l at_ out told = ⟨out ++ l, 0, at_ + l.length, told⟩
  | [], f, at_, out, told, _, _ => by rw [fill_end]; simp
  | c :: t, 0, _, _, _, _, h => by simp at h
  | c :: t, f + 1, at_, out, told, hc, hf => by
    rw [fill_byte (hc c (by simp)), fill_plain L t f (at_ + 1) (out ++ [c]) told (fun d hd => hc d (by simp [hd])) (by simpa using hf)]
    simp; omega
theorem fill_front (L : EnL) (r : List UInt8) : ∀ (l : List UInt8) (f at_ : Nat) (out : List UInt8) (told : Nat), (∀ c ∈ l, c ≠ 38) → l.length ≤ f → fillE L f (l ++ r) at_ out told = fillE L (f - l.length) r (at_ + l.length) (out ++ l) told
  | [], f, at_, out, told, _, _ => by simp
  | c :: t, 0, _, _, _, _, h => by simp at h
  | c :: t, f + 1, at_, out, told, hc, hf => by
    rw [List.cons_append, fill_byte (hc c (by simp)), fill_front L r t f (at_ + 1) (out ++ [c]) told (fun d hd => hc d (by simp [hd])) (by simpa using hf)]
    congr 1 <;> simp <;> omega
/-- What is defined is told by a reference, or why not. -/
theorem fill_tells (L : EnL) (front nm : List UInt8) (told : Nat) (hf : ∀ c ∈ front, c ≠ 38) (hn : localL nm = true) :
    fillL L (front ++ 38 :: (nm ++ [59])) told = if (getE L told nm).e = 0 then ⟨front ++ (getE L told nm).s, 0, front.length + 1 + nm.length + 1, (getE L told nm).told⟩ else ⟨[], (getE L told nm).e, front.length + 1 + nm.length, (getE L told nm).told⟩ := by
  have hr : refE [] (nm ++ [59]) = (some nm, nm.length) := ref_is (rest := []) hn
  unfold fillL
  rw [fill_front L _ front _ _ _ _ hf (by simp)]
  have hfl : (front ++ 38 :: (nm ++ [59])).length - front.length = (nm.length + 1) + 1 := by simp only [List.length_append, List.length_cons, List.length_nil]; omega
  rw [hfl]
  simp only [List.nil_append, Nat.zero_add]
  split
  · rename_i h
    rw [fill_ref (nm := nm) (by rw [hr]) h, hr]
    simp only
    rw [List.drop_eq_nil_of_le (by simp), fill_end]
  · rename_i h
    rw [fill_no (nm := nm) (by rw [hr]) h, hr]

theorem get_e (L : EnL) (told : Nat) (n : List UInt8) : (getE L told n).told = told ∨ (getE L told n).told = told + 1 := by
  unfold getE
  split
  · exact .inl rfl
  · split
    · exact .inl rfl
    · split
      · exact .inl rfl
      · exact .inr rfl
theorem find_size {n t : List UInt8} : ∀ {L : EnL}, findE n L = some t → t.length ≤ sizeE L
  | [], h => by cases h
  | x :: L, h => by
    simp only [findE] at h
    simp only [sizeE]
    split at h
    · injection h with h; subst h; omega
    · have := find_size h; omega
theorem get_len {L : EnL} {told : Nat} {n : List UInt8} (h : sizeE L ≤ 200) : (getE L told n).s.length ≤ 200 := by
  unfold getE
  split
  · rename_i t ht
    unfold fourE at ht
    repeat' split at ht
    all_goals first
      | (cases ht; simp; done)
      | cases ht
  · split
    · simp
    · rename_i t ht
      split
      · simp
      · have := find_size ht; simp only; omega
theorem size_snoc : ∀ (L : EnL) (n t : List UInt8), sizeE (L ++ [(n, t)]) = sizeE L + n.length + t.length
  | [], n, t => by simp [sizeE]
  | x :: L, n, t => by simp only [List.cons_append, sizeE, size_snoc L n t]; omega
theorem def_size {L : EnL} {n t : List UInt8} (h : sizeE L ≤ 200) : sizeE (defE L n t) ≤ 200 := by
  unfold defE
  split
  · rename_i hc
    rw [size_snoc]
    unfold defC at hc
    repeat' split at hc
    all_goals first
      | omega
      | cases hc
  · exact h
theorem def_len (L : EnL) (n t : List UInt8) : (defE L n t).length ≤ L.length + 1 := by
  unfold defE; split <;> simp
theorem find_snoc (n m t : List UInt8) : ∀ L : EnL, findE n (L ++ [(m, t)]) = match findE n L with | some x => some x | none => if m = n then some t else none
  | [] => rfl
  | x :: L => by
    simp only [List.cons_append, findE]
    split
    · rfl
    · exact find_snoc n m t L
end Go.Proofs.YtjepnddndpmnnaaGreat
