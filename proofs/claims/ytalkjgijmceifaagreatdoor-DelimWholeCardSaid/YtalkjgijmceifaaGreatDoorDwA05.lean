/-
  The events of documents as plain functions: which events are allowed, the machine of what is open, its run. No program is read here.
  Memory words: a block that is known whole, worlds in which one block has turned, small laws.
-/
import Derived.Test.YtalkjgijmceifaaGreatDoorDwA02
import Derived.Test.YtalkjgijmceifaaGreatDoorDwA04
import Derived.WalkKit
import Derived.Below
import Derived.Laws.OwnMore
import Derived.Deep.Draws
import Derived.Laws.Rows
import Derived.Deep.OwnRows
import Derived.OwnWalk
namespace Go.Proofs.YtalkjgijmceifaaGreatDoor
set_option linter.unusedSectionVars false
variable [Tab]

structure Ev where
  k : Int
  t : ByteArray
  v : ByteArray
structure Pt where
  kind : Int
  last : Int
  keys : List (List UInt8)
def topP : Pt := ⟨0, 0, []⟩

def validL (l : List UInt8) : Bool := decide (l.length ≤ 48) && (runesL l).isSome
def normL (l : List UInt8) : Bool := match Nm.readL l with | some v => decide (Nm.formL v = l) | none => false
def bareK (k : Int) : Bool := decide (k = 1 ∨ k = 5 ∨ k = 6 ∨ k = 7 ∨ k = 9 ∨ k = 12)
def opensK (k : Int) : Bool := decide (k = 5 ∨ k = 7 ∨ k = 10)
def endsK (k : Int) : Bool := decide (k = 6 ∨ k = 9 ∨ k = 12)
def valueK (k : Int) : Bool := decide (k = 1 ∨ k = 2 ∨ k = 3 ∨ k = 4 ∨ k = 5 ∨ k = 7 ∨ k = 10)
def emptyT (s : ByteArray) : Bool := decide (s.data.toList = [])
def fullL (l : List UInt8) : Bool := (cutL l).isSome
/-- 'true', 'false'. -/
def boolL (l : List UInt8) : Bool := decide (l = [116, 114, 117, 101]) || decide (l = [102, 97, 108, 115, 101])
def formedB (x : Ev) : Bool :=
  if bareK x.k then emptyT x.t && emptyT x.v
  else if x.k = 2 then emptyT x.v && boolL x.t.data.toList
  else if x.k = 3 then emptyT x.v && normL x.t.data.toList
  else if x.k = 4 ∨ x.k = 8 then emptyT x.v && validL x.t.data.toList
  else if x.k = 10 then emptyT x.v && fullL x.t.data.toList
  else if x.k = 11 then validL x.v.data.toList && fullL x.t.data.toList
  else false
def contElem (last k : Int) (te : Bool) : Bool :=
  if k = 11 then decide (last = 0 ∨ last = 11) else if k = 4 then decide (last ≠ 4) && !te else decide (k = 10 ∨ k = 12)
def contB (kind last k : Int) (te : Bool) : Bool :=
  if kind = 5 then valueK k || decide (k = 6)
  else if kind = 7 then (if last = 8 then valueK k else decide (k = 8 ∨ k = 9))
  else if kind = 10 then contElem last k te
  else decide (last = 0) && valueK k

def stepE : List Pt → Ev → Int
  | [], _ => 19
  | p :: r, x =>
    if formedB x = false ∨ contB p.kind p.last x.k (emptyT x.t) = false then 19
    else if endsK x.k then 0
    else if opensK x.k then (if 6 ≤ r.length then 5 else 0)
    else if x.k = 8 ∨ x.k = 11 then (if x.t.data.toList ∈ p.keys then 6 else if 10 ≤ p.keys.length then 7 else 0)
    else 0
def goS : List Pt → Ev → List Pt
  | [], _ => []
  | p :: r, x =>
    if endsK x.k then r
    else if opensK x.k then ⟨x.k, 0, []⟩ :: { p with last := x.k } :: r
    else if x.k = 8 ∨ x.k = 11 then { p with last := x.k, keys := x.t.data.toList :: p.keys } :: r
    else { p with last := x.k } :: r
def stepS (st : List Pt) (x : Ev) : List Pt := if stepE st x = 0 then goS st x else st
def doneB : List Pt → Bool
  | [p] => decide (p.last ≠ 0)
  | _ => false

/-- What lies around the innermost part. -/
def Outer : List Pt → Prop
  | [] => False
  | [p] => p.kind = 0 ∧ p.keys = [] ∧ (p.last = 0 ∨ valueK p.last = true)
  | p :: q :: r => opensK p.kind = true ∧ opensK q.last = true ∧ Outer (q :: r)
def Good (st : List Pt) : Prop := Outer st ∧ st.length ≤ 7

theorem good_start : Good [topP] := ⟨⟨rfl, rfl, .inl rfl⟩, by simp⟩
theorem Good.ne {st : List Pt} (h : Good st) : ∃ p r, st = p :: r := by
  cases st with
  | nil => exact h.1.elim
  | cons p r => exact ⟨p, r, rfl⟩
theorem opens_value {k : Int} (h : opensK k = true) : valueK k = true := by
  unfold opensK at h; unfold valueK; rw [decide_eq_true_iff] at h ⊢; omega
theorem outer_last {p : Pt} {r : List Pt} (h : Outer (p :: r)) (k : Int) (hk : r ≠ [] ∨ valueK k = true) (ks : List (List UInt8)) (hks : r ≠ [] ∨ ks = []) : Outer ({ p with last := k, keys := ks } :: r) := by
  cases r with
  | nil =>
    rcases hk with hk | hk
    · exact absurd rfl hk
    · rcases hks with hks | hks
      · exact absurd rfl hks
      · exact ⟨h.1, hks, .inr hk⟩
  | cons q r => exact ⟨h.1, h.2.1, h.2.2⟩
theorem outer_last' {p : Pt} {r : List Pt} (h : Outer (p :: r)) (k : Int) (hk : r ≠ [] ∨ valueK k = true) : Outer ({ p with last := k } :: r) := by
  cases r with
  | nil =>
    rcases hk with hk | hk
    · exact absurd rfl hk
    · exact ⟨h.1, h.2.1, .inr hk⟩
  | cons q r => exact ⟨h.1, h.2.1, h.2.2⟩
/-- At the top only a value may follow. -/
theorem top_cont {p : Pt} (h : Outer [p]) {k : Int} {te : Bool} (hc : contB p.kind p.last k te = true) : p.last = 0 ∧ valueK k = true := by
  unfold contB at hc
  rw [h.1, if_neg (by decide), if_neg (by decide), if_neg (by decide), Bool.and_eq_true, decide_eq_true_iff] at hc
  exact hc
theorem cont_of {p : Pt} {r : List Pt} {x : Ev} (h : stepE (p :: r) x = 0) : formedB x = true ∧ contB p.kind p.last x.k (emptyT x.t) = true := by
  simp only [stepE] at h
  split at h
  · exact absurd h (by decide)
  · rename_i hn
    rw [not_or, Bool.not_eq_false, Bool.not_eq_false] at hn
    exact hn
theorem ends_not_value {k : Int} (h : endsK k = true) : valueK k = false := by
  unfold endsK at h; unfold valueK; rw [decide_eq_true_iff] at h; rw [decide_eq_false_iff_not]; omega
theorem depth_of {p : Pt} {r : List Pt} {x : Ev} (h : stepE (p :: r) x = 0) (ho : opensK x.k = true) : r.length < 6 := by
  have hc := cont_of h
  simp only [stepE] at h
  rw [if_neg (by rw [hc.1, hc.2]; decide), if_neg (by unfold opensK at ho; unfold endsK; rw [decide_eq_true_iff] at ho ⊢; omega), if_pos ho] at h
  split at h
  · exact absurd h (by decide)
  · omega
theorem good_step {st : List Pt} (hg : Good st) (x : Ev) : Good (stepS st x) := by
  unfold stepS
  by_cases h : stepE st x = 0
  · rw [if_pos h]
    obtain ⟨p, r, rfl⟩ := hg.ne
    obtain ⟨hf, hc⟩ := cont_of h
    obtain ⟨ho, hl⟩ := hg
    have hl' : r.length ≤ 6 := by simpa using hl
    simp only [goS]
    by_cases h1 : endsK x.k = true
    · rw [if_pos h1]
      cases r with
      | nil =>
        have := (top_cont ho hc).2
        rw [ends_not_value h1] at this
        cases this
      | cons q r => exact ⟨ho.2.2, by simp at hl' ⊢; omega⟩
    · rw [if_neg h1]
      by_cases h2 : opensK x.k = true
      · rw [if_pos h2]
        exact ⟨⟨h2, h2, outer_last' ho _ (.inr (opens_value h2))⟩, by have := depth_of h h2; simp; omega⟩
      · rw [if_neg h2]
        by_cases h3 : x.k = 8 ∨ x.k = 11
        · rw [if_pos h3]
          have hr : r ≠ [] := by
            rintro rfl
            have := (top_cont ho hc).2
            unfold valueK at this
            rw [decide_eq_true_iff] at this
            omega
          exact ⟨outer_last ho _ (.inl hr) _ (.inl hr), hl⟩
        · rw [if_neg h3]
          refine ⟨outer_last' ho _ ?_, hl⟩
          by_cases hr : r = []
          · subst hr; exact .inr (top_cont ho hc).2
          · exact .inl hr
  · rw [if_neg h]
    exact hg

/-- The run over a list: where it stops, and with which error. -/
def runS (st : List Pt) (l : List Ev) : List Pt := l.foldl stepS st
def allOk : List Pt → List Ev → Prop
  | _, [] => True
  | st, x :: l => stepE st x = 0 ∧ allOk (stepS st x) l
def wholeGo (i : Nat) (st : List Pt) : List Ev → Nat × Int
  | [] => (i, if doneB st then 0 else 19)
  | x :: l => if stepE st x = 0 then wholeGo (i + 1) (stepS st x) l else (i, stepE st x)
def wholeN (l : List Ev) : Nat := (wholeGo 0 [topP] l).1
def wholeE (l : List Ev) : Int := (wholeGo 0 [topP] l).2

theorem runS_snoc (st : List Pt) (l : List Ev) (x : Ev) : runS st (l ++ [x]) = stepS (runS st l) x := by simp [runS]
theorem good_run {st : List Pt} (h : Good st) (l : List Ev) : Good (runS st l) := by
  induction l generalizing st with
  | nil => exact h
  | cons x l ih => exact ih (good_step h x)
theorem allOk_snoc : ∀ (st : List Pt) (l : List Ev) (x : Ev), allOk st (l ++ [x]) ↔ allOk st l ∧ stepE (runS st l) x = 0
  | st, [], x => by simp [allOk, runS]
  | st, y :: l, x => by
    have := allOk_snoc (stepS st y) l x
    simp only [List.cons_append, allOk, this, and_assoc]
    rfl
theorem whole_run : ∀ (i : Nat) (st : List Pt) (l m : List Ev), allOk st l → wholeGo i st (l ++ m) = wholeGo (i + l.length) (runS st l) m
  | i, st, [], m, _ => rfl
  | i, st, x :: l, m, h => by
    have := whole_run (i + 1) (stepS st x) l m h.2
    simp only [List.cons_append, wholeGo, if_pos h.1, this, List.length_cons]
    congr 1
    omega
theorem whole_ok {l : List Ev} (h : wholeE l = 0) : allOk [topP] l ∧ doneB (runS [topP] l) = true := by
  have key : ∀ (l : List Ev) (i : Nat) (st : List Pt), (wholeGo i st l).2 = 0 → allOk st l ∧ doneB (runS st l) = true := by
    intro l
    induction l with
    | nil =>
      intro i st h
      simp only [wholeGo] at h
      split at h
      · rename_i hd; exact ⟨trivial, hd⟩
      · exact absurd h (by decide)
    | cons x l ih =>
      intro i st h
      simp only [wholeGo] at h
      split at h
      · rename_i h0
        have := ih _ _ h
        exact ⟨⟨h0, this.1⟩, this.2⟩
      · rename_i h0; exact absurd h h0
  exact key l 0 _ h
theorem whole_of {l : List Ev} (h : allOk [topP] l) : wholeGo 0 [topP] l = (l.length, if doneB (runS [topP] l) then 0 else 19) := by
  have := whole_run 0 [topP] l [] h
  rw [List.append_nil] at this
  rw [this]
  simp [wholeGo]

/-- Behind a whole document nothing follows. -/
theorem done_stop {st : List Pt} (h : doneB st = true) (hg : Good st) (x : Ev) : stepE st x = 19 := by
  match st, h with
  | [p], h =>
    simp only [doneB, decide_eq_true_iff] at h
    simp only [stepE]
    by_cases hc : formedB x = false ∨ contB p.kind p.last x.k (emptyT x.t) = false
    · rw [if_pos hc]
    · rw [not_or, Bool.not_eq_false, Bool.not_eq_false] at hc
      exact absurd (top_cont hg.1 hc.2).1 h
theorem begins_pure {l : List Ev} (h : wholeE l = 0) {c : Nat} (hc : c < l.length) : wholeGo 0 [topP] (l.take c) = (c, 19) := by
  obtain ⟨ha, _⟩ := whole_ok h
  have e : l = l.take c ++ l[c] :: l.drop (c + 1) := by rw [← List.drop_eq_getElem_cons hc, List.take_append_drop]
  have key : ∀ (a b : List Ev) (x : Ev) (st : List Pt), allOk st (a ++ x :: b) → allOk st a ∧ stepE (runS st a) x = 0 := by
    intro a
    induction a with
    | nil => intro b x st h; exact ⟨trivial, h.1⟩
    | cons y a ih => intro b x st h; exact ⟨⟨h.1, (ih b x _ h.2).1⟩, (ih b x _ h.2).2⟩
  rw [e] at ha
  obtain ⟨h1, h2⟩ := key _ _ _ _ ha
  rw [whole_of h1, List.length_take, Nat.min_eq_left (by omega)]
  have hd : doneB (runS [topP] (l.take c)) = false := by
    rw [Bool.eq_false_iff]
    intro hd
    rw [done_stop hd (good_run good_start _)] at h2
    exact absurd h2 (by decide)
  rw [hd]
  rfl
theorem whole_nil : wholeGo 0 [topP] [] = (0, 19) := rfl

/-! A step's depth. -/
theorem depth_step {st : List Pt} (hg : Good st) (x : Ev) : (stepS st x).length ≤ st.length + 1 ∧ st.length ≤ (stepS st x).length + 1 ∧ (stepE st x ≠ 0 → (stepS st x).length = st.length) ∧ (stepE st x = 5 → (stepS st x).length = 7) := by
  unfold stepS
  by_cases h : stepE st x = 0
  · rw [if_pos h]
    obtain ⟨p, r, rfl⟩ := hg.ne
    refine ⟨?_, ?_, fun hn => absurd h hn, fun h5 => by rw [h] at h5; exact absurd h5 (by decide)⟩
    · simp only [goS]; repeat' split
      all_goals first | (simp; done) | (simp; omega)
    · simp only [goS]; repeat' split
      all_goals first | (simp; done) | (simp; omega)
  · rw [if_neg h]
    refine ⟨by omega, by omega, fun _ => rfl, fun h5 => ?_⟩
    obtain ⟨p, r, rfl⟩ := hg.ne
    have hl := hg.2
    simp only [stepE] at h5
    repeat' split at h5
    all_goals first
      | (exfalso; exact absurd h5 (by decide))
      | (simp at hl ⊢; omega)
end Go.Proofs.YtalkjgijmceifaaGreatDoor
namespace Go.Proofs.YtalkjgijmceifaaGreatDoor
open Go.RowKit

def Blk (w : World) (g : Nat) (t : TypeId) (cs : Array Value) : Prop := w.heap[g]? = some (.cells cs t (0, 0))

section
variable {w w' : World} {g : Nat} {t : TypeId} {cs : Array Value}
theorem Blk.lt (h : Blk w g t cs) : g < w.heap.size := by
  rcases Nat.lt_or_ge g w.heap.size with hlt | hge
  · exact hlt
  · unfold Blk at h; rw [Array.getElem?_eq_none hge] at h; cases h
theorem Blk.cell (h : Blk w g t cs) (i : Nat) : w.cell? ⟨g, i, none⟩ = cs[i]? := cell_of_row w g i cs t (0, 0) h
theorem Blk.frozen (h : Blk w g t cs) (i : Nat) : w.frozen? ⟨g, i, none⟩ = false := by
  unfold Blk at h
  simp [World.frozen?, h]
theorem Blk.new (w : World) (t : TypeId) (cs : Array Value) : Blk (w.alloc (.cells cs t)) w.heap.size t cs := heap_alloc_new w _
theorem Blk.drew (h : Blk w g t cs) : Blk w.drew g t cs := h
theorem Blk.drewN (h : Blk w g t cs) (n : Nat) : Blk (w.drewN n) g t cs := h
theorem Blk.alloc (h : Blk w g t cs) (o : Obj) : Blk (w.alloc o) g t cs := (Below.heap_alloc w o g h.lt).trans h
theorem Blk.set_ (h : Blk w g t cs) (i : Nat) (u : Value) : Blk (w.setCell ⟨g, i, none⟩ u) g t (cs.setIfInBounds i u) := by
  unfold Blk at h ⊢
  simp [World.setCell, Array.getElem?_modify, h]
theorem Blk.far (h : Blk w g t cs) {p : Addr} (hp : g ≠ p.block) (u : Value) : Blk (w.setCell p u) g t cs := (Below.heap_setCell w p u g hp).trans h
theorem Blk.below {B : Nat} (h : Blk w g t cs) (hb : Below B w w') (hg : g < B) : Blk w' g t cs := (hb.block g hg).trans h
theorem Blk.grown {row : Option Nat} (h : Blk w g t cs) (hb : w.grownBy w' row) (hg : some g ≠ row) : Blk w' g t cs := (hb.block g h.lt hg).trans h
end

theorem only_drewN {a w : World} {row : Option Nat} (h : a.grownBy w row) (n : Nat) : a.grownBy (w.drewN n) row := ⟨h.os, h.tape, h.output, h.size, h.block⟩
theorem only_drew {a w : World} {row : Option Nat} (h : a.grownBy w row) : a.grownBy w.drew row := ⟨h.os, h.tape, h.output, h.size, h.block⟩
theorem only_alloc {a w : World} {row : Option Nat} (h : a.grownBy w row) (o : Obj) : a.grownBy (w.alloc o) row :=
  ⟨h.os, h.tape, h.output, Nat.le_trans h.size (by simp), fun i hi hne => (Below.heap_alloc w o i (Nat.lt_of_lt_of_le hi h.size)).trans (h.block i hi hne)⟩
theorem only_setCell {a w : World} {g : Nat} (h : a.grownBy w (some g)) {p : Addr} (hp : p.block = g ∨ a.heap.size ≤ p.block) (u : Value) : a.grownBy (w.setCell p u) (some g) :=
  ⟨h.os, h.tape, h.output, by simpa [World.setCell] using h.size, fun i hi hne => (Below.heap_setCell w p u i (by
    rintro rfl
    rcases hp with hp | hp
    · exact hne (by rw [hp])
    · omega)).trans (h.block i hi hne)⟩
theorem only_of_below {a w : World} (h : Below a.heap.size a w) (row : Option Nat) : a.grownBy w row := ⟨h.os, h.tape, h.output, h.size, fun i hi _ => h.block i hi⟩
theorem below_drewN {B : Nat} {a w : World} (h : Below B a w) (n : Nat) : Below B a (w.drewN n) := ⟨h.os, h.tape, h.output, h.size, h.block⟩
theorem below_drew {B : Nat} {a w : World} (h : Below B a w) : Below B a w.drew := ⟨h.os, h.tape, h.output, h.size, h.block⟩
theorem below_only {a w w' : World} {B g : Nat} (h : Below B a w) (k : w.grownBy w' (some g)) (hB : B ≤ w.heap.size) (hg : B ≤ g) : Below B a w' :=
  ⟨k.os.trans h.os, k.tape.trans h.tape, k.output.trans h.output, Nat.le_trans h.size k.size, fun i hi => (k.block i (by omega) (fun e => by injection e; omega)).trans (h.block i hi)⟩

end Go.Proofs.YtalkjgijmceifaaGreatDoor
