/-
  The events of documents as plain functions: which events are allowed, the machine of what is open, its run. No program is read here.
  Memory words: a block that is known whole, worlds in which one block has turned, small laws.
  Rows that the call itself made, of elements of one cell: what append, conversion to a string and reading do with them. Conditions: as each theorem says.
  Contracts of the small functions of src and of its reference: pure computations on numbers.
-/
import Derived.Test.YtjepnddndpmnnaaGreatDoorGwA02
import Derived.Test.YtjepnddndpmnnaaGreatDoorGwA03
import Derived.WalkKit
import Derived.Below
import Derived.Laws.OwnMore
import Derived.Deep.Draws
import Derived.Laws.Rows
import Derived.Deep.OwnRows
import Derived.OwnWalk
import Derived.Maps.AppendAt
import Derived.Laws.BytesString
import Derived.Laws.IdiomStrings
import Derived.Lib.BufferRead
import Derived.Deep.AppendLies
import Derived.Test.YtjepnddndpmnnaaGreatDoorChecked
import Derived.Test.YtjepnddndpmnnaaGreatDoorGwA01
import Derived.WalkSpells
import Derived.WalkLawsBesides
import Derived.Lib.Hide
namespace Go.Proofs.YtjepnddndpmnnaaGreatDoor
set_option linter.unusedSectionVars false
variable [Tab]

structure Ev where
  k : Int
  t : ByteArray
  v : ByteArray
structure Pt where
  kind : Int
  last : Int
  keys : List (List UInt8)
def topP : Pt := ⟨0, 0, []⟩

def validL (l : List UInt8) : Bool := decide (l.length ≤ 48) && (runesL l).isSome
def normL (l : List UInt8) : Bool := match Nm.readL l with | some v => decide (Nm.formL v = l) | none => false
def bareK (k : Int) : Bool := decide (k = 1 ∨ k = 5 ∨ k = 6 ∨ k = 7 ∨ k = 9 ∨ k = 12)
def opensK (k : Int) : Bool := decide (k = 5 ∨ k = 7 ∨ k = 10)
def endsK (k : Int) : Bool := decide (k = 6 ∨ k = 9 ∨ k = 12)
def valueK (k : Int) : Bool := decide (k = 1 ∨ k = 2 ∨ k = 3 ∨ k = 4 ∨ k = 5 ∨ k = 7 ∨ k = 10)
def emptyT (s : ByteArray) : Bool := decide (s.data.toList = [])
def fullL (l : List UInt8) : Bool := (cutL l).isSome
/-- 'true', 'false'. -/
def boolL (l : List UInt8) : Bool := decide (l = [116, 114, 117, 101]) || decide (l = [102, 97, 108, 115, 101])
def formedB (x : Ev) : Bool :=
  if bareK x.k then emptyT x.t && emptyT x.v
  else if x.k = 2 then emptyT x.v && boolL x.t.data.toList
  else if x.k = 3 then emptyT x.v && normL x.t.data.toList
  else if x.k = 4 ∨ x.k = 8 then emptyT x.v && validL x.t.data.toList
  else if x.k = 10 then emptyT x.v && fullL x.t.data.toList
  else if x.k = 11 then validL x.v.data.toList && fullL x.t.data.toList
  else false
def contElem (last k : Int) (te : Bool) : Bool :=
  if k = 11 then decide (last = 0 ∨ last = 11) else if k = 4 then decide (last ≠ 4) && !te else decide (k = 10 ∨ k = 12)
def contB (kind last k : Int) (te : Bool) : Bool :=
  if kind = 5 then valueK k || decide (k = 6)
  else if kind = 7 then (if last = 8 then valueK k else decide (k = 8 ∨ k = 9))
  else if kind = 10 then contElem last k te
  else decide (last = 0) && valueK k

def stepE : List Pt → Ev → Int
  | [], _ => 19
  | p :: r, x =>
    if formedB x = false ∨ contB p.kind p.last x.k (emptyT x.t) = false then 19
    else if endsK x.k then 0
    else if opensK x.k then (if 6 ≤ r.length then 5 else 0)
    else if x.k = 8 ∨ x.k = 11 then (if x.t.data.toList ∈ p.keys then 6 else if 10 ≤ p.keys.length then 7 else 0)
    else 0
def goS : List Pt → Ev → List Pt
  | [], _ => []
  | p :: r, x =>
    if endsK x.k then r
    else if opensK x.k then ⟨x.k, 0, []⟩ :: { p with last := x.k } :: r
    else if x.k = 8 ∨ x.k = 11 then { p with last := x.k, keys := x.t.data.toList :: p.keys } :: r
    else { p with last := x.k } :: r
def stepS (st : List Pt) (x : Ev) : List Pt := if stepE st x = 0 then goS st x else st
def doneB : List Pt → Bool
  | [p] => decide (p.last ≠ 0)
  | _ => false

/-- What lies around the innermost part. -/
def Outer : List Pt → Prop
  | [] => False
  | [p] => p.kind = 0 ∧ p.keys = [] ∧ (p.last = 0 ∨ valueK p.last = true)
  | p :: q :: r => opensK p.kind = true ∧ opensK q.last = true ∧ Outer (q :: r)
def Good (st : List Pt) : Prop := Outer st ∧ st.length ≤ 7

theorem good_start : Good [topP] := ⟨⟨rfl, rfl, .inl rfl⟩, by simp⟩
theorem Good.ne {st : List Pt} (h : Good st) : ∃ p r, st = p :: r := by
  cases st with
  | nil => exact h.1.elim
  | cons p r => exact ⟨p, r, rfl⟩
theorem opens_value {k : Int} (h : opensK k = true) : valueK k = true := by
  unfold opensK at h; unfold valueK; rw [decide_eq_true_iff] at h ⊢; omega
theorem outer_last {p : Pt} {r : List Pt} (h : Outer (p :: r)) (k : Int) (hk : r ≠ [] ∨ valueK k = true) (ks : List (List UInt8)) (hks : r ≠ [] ∨ ks = []) : Outer ({ p with last := k, keys := ks } :: r) := by
  cases r with
  | nil =>
    rcases hk with hk | hk
    · exact absurd rfl hk
    · rcases hks with hks | hks
      · exact absurd rfl hks
      · exact ⟨h.1, hks, .inr hk⟩
  | cons q r => exact ⟨h.1, h.2.1, h.2.2⟩
theorem outer_last' {p : Pt} {r : List Pt} (h : Outer (p :: r)) (k : Int) (hk : r ≠ [] ∨ valueK k = true) : Outer ({ p with last := k } :: r) := by
  cases r with
  | nil =>
    rcases hk with hk | hk
    · exact absurd rfl hk
    · exact ⟨h.1, h.2.1, .inr hk⟩
  | cons q r => exact ⟨h.1, h.2.1, h.2.2⟩
/-- At the top only a value may follow. -/
theorem top_cont {p : Pt} (h : Outer [p]) {k : Int} {te : Bool} (hc : contB p.kind p.last k te = true) : p.last = 0 ∧ valueK k = true := by
  unfold contB at hc
  rw [h.1, if_neg (by decide), if_neg (by decide), if_neg (by decide), Bool.and_eq_true, decide_eq_true_iff] at hc
  exact hc
theorem cont_of {p : Pt} {r : List Pt} {x : Ev} (h : stepE (p :: r) x = 0) : formedB x = true ∧ contB p.kind p.last x.k (emptyT x.t) = true := by
  simp only [stepE] at h
  split at h
  · exact absurd h (by decide)
  · rename_i hn
    rw [not_or, Bool.not_eq_false, Bool.not_eq_false] at hn
    exact hn
theorem ends_not_value {k : Int} (h : endsK k = true) : valueK k = false := by
  unfold endsK at h; unfold valueK; rw [decide_eq_true_iff] at h; rw [decide_eq_false_iff_not]; omega
theorem depth_of {p : Pt} {r : List Pt} {x : Ev} (h : stepE (p :: r) x = 0) (ho : opensK x.k = true) : r.length < 6 := by
  have hc := cont_of h
  simp only [stepE] at h
  rw [if_neg (by rw [hc.1, hc.2]; decide), if_neg (by unfold opensK at ho; unfold endsK; rw [decide_eq_true_iff] at ho ⊢; omega), if_pos ho] at h
  split at h
  · exact absurd h (by decide)
  · omega
theorem good_step {st : List Pt} (hg : Good st) (x : Ev) : Good (stepS st x) := by
  unfold stepS
  by_cases h : stepE st x = 0
  · rw [if_pos h]
    obtain ⟨p, r, rfl⟩ := hg.ne
    obtain ⟨hf, hc⟩ := cont_of h
    obtain ⟨ho, hl⟩ := hg
    have hl' : r.length ≤ 6 := by simpa using hl
    simp only [goS]
    by_cases h1 : endsK x.k = true
    · rw [if_pos h1]
      cases r with
      | nil =>
        have := (top_cont ho hc).2
        rw [ends_not_value h1] at this
        cases this
      | cons q r => exact ⟨ho.2.2, by simp at hl' ⊢; omega⟩
    · rw [if_neg h1]
      by_cases h2 : opensK x.k = true
      · rw [if_pos h2]
        exact ⟨⟨h2, h2, outer_last' ho _ (.inr (opens_value h2))⟩, by have := depth_of h h2; simp; omega⟩
      · rw [if_neg h2]
        by_cases h3 : x.k = 8 ∨ x.k = 11
        · rw [if_pos h3]
          have hr : r ≠ [] := by
            rintro rfl
            have := (top_cont ho hc).2
            unfold valueK at this
            rw [decide_eq_true_iff] at this
            omega
          exact ⟨outer_last ho _ (.inl hr) _ (.inl hr), hl⟩
        · rw [if_neg h3]
          refine ⟨outer_last' ho _ ?_, hl⟩
          by_cases hr : r = []
          · subst hr; exact .inr (top_cont ho hc).2
          · exact .inl hr
  · rw [if_neg h]
    exact hg

/-- The run over a list: where it stops, and with which error. -/
def runS (st : List Pt) (l : List Ev) : List Pt := l.foldl stepS st
def allOk : List Pt → List Ev → Prop
  | _, [] => True
  | st, x :: l => stepE st x = 0 ∧ allOk (stepS st x) l
def wholeGo (i : Nat) (st : List Pt) : List Ev → Nat × Int
  | [] => (i, if doneB st then 0 else 19)
  | x :: l => if stepE st x = 0 then wholeGo (i + 1) (stepS st x) l else (i, stepE st x)
def wholeN (l : List Ev) : Nat := (wholeGo 0 [topP] l).1
def wholeE (l : List Ev) : Int := (wholeGo 0 [topP] l).2

theorem runS_snoc (st : List Pt) (l : List Ev) (x : Ev) : runS st (l ++ [x]) = stepS (runS st l) x := by simp [runS]
theorem good_run {st : List Pt} (h : Good st) (l : List Ev) : Good (runS st l) := by
  induction l generalizing st with
  | nil => exact h
  | cons x l ih => exact ih (good_step h x)
theorem allOk_snoc : ∀ (st : List Pt) (l : List Ev) (x : Ev), allOk st (l ++ [x]) ↔ allOk st l ∧ stepE (runS st l) x = 0
  | st, [], x => by simp [allOk, runS]
  | st, y :: l, x => by
    have := allOk_snoc (stepS st y) l x
    simp only [List.cons_append, allOk, this, and_assoc]
    rfl
theorem whole_run : ∀ (i : Nat) (st : List Pt) (l m : List Ev), allOk st l → wholeGo i st (l ++ m) = wholeGo (i + l.length) (runS st l) m
  | i, st, [], m, _ => rfl
  | i, st, x :: l, m, h => by
    have := whole_run (i + 1) (stepS st x) l m h.2
    simp only [List.cons_append, wholeGo, if_pos h.1, this, List.length_cons]
    congr 1
    omega
theorem whole_ok {l : List Ev} (h : wholeE l = 0) : allOk [topP] l ∧ doneB (runS [topP] l) = true := by
  have key : ∀ (l : List Ev) (i : Nat) (st : List Pt), (wholeGo i st l).2 = 0 → allOk st l ∧ doneB (runS st l) = true := by
    intro l
    induction l with
    | nil =>
      intro i st h
      simp only [wholeGo] at h
      split at h
      · rename_i hd; exact ⟨trivial, hd⟩
      · exact absurd h (by decide)
    | cons x l ih =>
      intro i st h
      simp only [wholeGo] at h
      split at h
      · rename_i h0
        have := ih _ _ h
        exact ⟨⟨h0, this.1⟩, this.2⟩
      · rename_i h0; exact absurd h h0
  exact key l 0 _ h
theorem whole_of {l : List Ev} (h : allOk [topP] l) : wholeGo 0 [topP] l = (l.length, if doneB (runS [topP] l) then 0 else 19) := by
  have := whole_run 0 [topP] l [] h
  rw [List.append_nil] at this
  rw [this]
  simp [wholeGo]

/-- Behind a whole document nothing follows. -/
theorem done_stop {st : List Pt} (h : doneB st = true) (hg : Good st) (x : Ev) : stepE st x = 19 := by
  match st, h with
  | [p], h =>
    simp only [doneB, decide_eq_true_iff] at h
    simp only [stepE]
    by_cases hc : formedB x = false ∨ contB p.kind p.last x.k (emptyT x.t) = false
    · rw [if_pos hc]
    · rw [not_or, Bool.not_eq_false, Bool.not_eq_false] at hc
      exact absurd (top_cont hg.1 hc.2).1 h
theorem begins_pure {l : List Ev} (h : wholeE l = 0) {c : Nat} (hc : c < l.length) : wholeGo 0 [topP] (l.take c) = (c, 19) := by
  obtain ⟨ha, _⟩ := whole_ok h
  have e : l = l.take c ++ l[c] :: l.drop (c + 1) := by rw [← List.drop_eq_getElem_cons hc, List.take_append_drop]
  have key : ∀ (a b : List Ev) (x : Ev) (st : List Pt), allOk st (a ++ x :: b) → allOk st a ∧ stepE (runS st a) x = 0 := by
    intro a
    induction a with
    | nil => intro b x st h; exact ⟨trivial, h.1⟩
    | cons y a ih => intro b x st h; exact ⟨⟨h.1, (ih b x _ h.2).1⟩, (ih b x _ h.2).2⟩
  rw [e] at ha
  obtain ⟨h1, h2⟩ := key _ _ _ _ ha
  rw [whole_of h1, List.length_take, Nat.min_eq_left (by omega)]
  have hd : doneB (runS [topP] (l.take c)) = false := by
    rw [Bool.eq_false_iff]
    intro hd
    rw [done_stop hd (good_run good_start _)] at h2
    exact absurd h2 (by decide)
  rw [hd]
  rfl
theorem whole_nil : wholeGo 0 [topP] [] = (0, 19) := rfl

/-! A step's depth. -/
theorem depth_step {st : List Pt} (hg : Good st) (x : Ev) : (stepS st x).length ≤ st.length + 1 ∧ st.length ≤ (stepS st x).length + 1 ∧ (stepE st x ≠ 0 → (stepS st x).length = st.length) ∧ (stepE st x = 5 → (stepS st x).length = 7) := by
  unfold stepS
  by_cases h : stepE st x = 0
  · rw [if_pos h]
    obtain ⟨p, r, rfl⟩ := hg.ne
    refine ⟨?_, ?_, fun hn => absurd h hn, fun h5 => by rw [h] at h5; exact absurd h5 (by decide)⟩
    · simp only [goS]; repeat' split
      all_goals first | (simp; done) | (simp; omega)
    · simp only [goS]; repeat' split
      all_goals first | (simp; done) | (simp; omega)
  · rw [if_neg h]
    refine ⟨by omega, by omega, fun _ => rfl, fun h5 => ?_⟩
    obtain ⟨p, r, rfl⟩ := hg.ne
    have hl := hg.2
    simp only [stepE] at h5
    repeat' split at h5
    all_goals first
      | (exfalso; exact absurd h5 (by decide))
      | (simp at hl ⊢; omega)
end Go.Proofs.YtjepnddndpmnnaaGreatDoor
namespace Go.Proofs.YtjepnddndpmnnaaGreatDoor
open Go.RowKit

def Blk (w : World) (g : Nat) (t : TypeId) (cs : Array Value) : Prop := w.heap[g]? = some (.cells cs t (0, 0))

section
variable {w w' : World} {g : Nat} {t : TypeId} {cs : Array Value}
theorem Blk.lt (h : Blk w g t cs) : g < w.heap.size := by
  rcases Nat.lt_or_ge g w.heap.size with hlt | hge
  · exact hlt
  · unfold Blk at h; rw [Array.getElem?_eq_none hge] at h; cases h
theorem Blk.cell (h : Blk w g t cs) (i : Nat) : w.cell? ⟨g, i, none⟩ = cs[i]? := cell_of_row w g i cs t (0, 0) h
theorem Blk.frozen (h : Blk w g t cs) (i : Nat) : w.frozen? ⟨g, i, none⟩ = false := by
  unfold Blk at h
  simp [World.frozen?, h]
theorem Blk.new (w : World) (t : TypeId) (cs : Array Value) : Blk (w.alloc (.cells cs t)) w.heap.size t cs := heap_alloc_new w _
theorem Blk.drew (h : Blk w g t cs) : Blk w.drew g t cs := h
theorem Blk.drewN (h : Blk w g t cs) (n : Nat) : Blk (w.drewN n) g t cs := h
theorem Blk.alloc (h : Blk w g t cs) (o : Obj) : Blk (w.alloc o) g t cs := (Below.heap_alloc w o g h.lt).trans h
theorem Blk.set_ (h : Blk w g t cs) (i : Nat) (u : Value) : Blk (w.setCell ⟨g, i, none⟩ u) g t (cs.setIfInBounds i u) := by
  unfold Blk at h ⊢
  simp [World.setCell, Array.getElem?_modify, h]
theorem Blk.far (h : Blk w g t cs) {p : Addr} (hp : g ≠ p.block) (u : Value) : Blk (w.setCell p u) g t cs := (Below.heap_setCell w p u g hp).trans h
theorem Blk.below {B : Nat} (h : Blk w g t cs) (hb : Below B w w') (hg : g < B) : Blk w' g t cs := (hb.block g hg).trans h
theorem Blk.grown {row : Option Nat} (h : Blk w g t cs) (hb : w.grownBy w' row) (hg : some g ≠ row) : Blk w' g t cs := (hb.block g h.lt hg).trans h
end

theorem only_drewN {a w : World} {row : Option Nat} (h : a.grownBy w row) (n : Nat) : a.grownBy (w.drewN n) row := ⟨h.os, h.tape, h.output, h.size, h.block⟩
theorem only_drew {a w : World} {row : Option Nat} (h : a.grownBy w row) : a.grownBy w.drew row := ⟨h.os, h.tape, h.output, h.size, h.block⟩
theorem only_alloc {a w : World} {row : Option Nat} (h : a.grownBy w row) (o : Obj) : a.grownBy (w.alloc o) row :=
  ⟨h.os, h.tape, h.output, Nat.le_trans h.size (by simp), fun i hi hne => (Below.heap_alloc w o i (Nat.lt_of_lt_of_le hi h.size)).trans (h.block i hi hne)⟩
theorem only_setCell {a w : World} {g : Nat} (h : a.grownBy w (some g)) {p : Addr} (hp : p.block = g ∨ a.heap.size ≤ p.block) (u : Value) : a.grownBy (w.setCell p u) (some g) :=
  ⟨h.os, h.tape, h.output, by simpa [World.setCell] using h.size, fun i hi hne => (Below.heap_setCell w p u i (by
    rintro rfl
    rcases hp with hp | hp
    · exact hne (by rw [hp])
    · omega)).trans (h.block i hi hne)⟩
theorem only_of_below {a w : World} (h : Below a.heap.size a w) (row : Option Nat) : a.grownBy w row := ⟨h.os, h.tape, h.output, h.size, fun i hi _ => h.block i hi⟩
theorem below_drewN {B : Nat} {a w : World} (h : Below B a w) (n : Nat) : Below B a (w.drewN n) := ⟨h.os, h.tape, h.output, h.size, h.block⟩
theorem below_drew {B : Nat} {a w : World} (h : Below B a w) : Below B a w.drew := ⟨h.os, h.tape, h.output, h.size, h.block⟩
theorem below_only {a w w' : World} {B g : Nat} (h : Below B a w) (k : w.grownBy w' (some g)) (hB : B ≤ w.heap.size) (hg : B ≤ g) : Below B a w' :=
  ⟨k.os.trans h.os, k.tape.trans h.tape, k.output.trans h.output, Nat.le_trans h.size k.size, fun i hi => (k.block i (by omega) (fun e => by injection e; omega)).trans (h.block i hi)⟩

end Go.Proofs.YtjepnddndpmnnaaGreatDoor
namespace Go.Proofs.YtjepnddndpmnnaaGreatDoor
open Go.RowKit

/-- The slice v owns the cells xs, one cell an element. -/
def ORow (w : World) (base : Nat) (e : TypeId) (v : Value) (xs : List Value) : Prop := w.ownsRow base e 1 v xs.length xs

section
variable {P : Program} {w w' : World} {base : Nat} {e : TypeId} {v : Value} {xs : List Value}
theorem ORow.nil (w : World) (base : Nat) (e : TypeId) : ORow w base e (.slice none 0 0) [] := World.ownsRow_nil w base e 1
theorem ORow.alloc (h : ORow w base e v xs) (o : Obj) : ORow (w.alloc o) base e v xs := World.ownsRow.alloc h o
theorem ORow.drew (h : ORow w base e v xs) : ORow w.drew base e v xs := h
theorem ORow.drewN (h : ORow w base e v xs) (n : Nat) : ORow (w.drewN n) base e v xs := h
theorem ORow.kept {row : Option Nat} (h : ORow w base e v xs) (hg : w.grownBy w' row) (hne : v.ownBlock = none ∨ v.ownBlock ≠ row) : ORow w' base e v xs := World.ownsRow.kept h hg hne
theorem ORow.mono {b : Nat} (h : ORow w base e v xs) (hb : b ≤ base) : ORow w b e v xs := by
  refine ⟨h.1, ?_⟩
  rcases h.2 with hn | ⟨g, cap, cur, hv, hg, r⟩
  · exact .inl hn
  · exact .inr ⟨g, cap, cur, hv, Nat.le_trans hb hg, r⟩
theorem ORow.below {B : Nat} (h : ORow w base e v xs) (hb : Below B w w') (hB : ∀ g, v.ownBlock = some g → g < B) : ORow w' base e v xs := by
  refine ⟨h.1, ?_⟩
  rcases h.2 with hn | ⟨g, cap, cur, hv, hg, hh, r⟩
  · exact .inl hn
  · refine .inr ⟨g, cap, cur, hv, hg, ?_, r⟩
    rw [hb.block g (hB g (by rw [hv]; rfl))]
    exact hh
/-- The form of the value: nil, or at the head of a block. -/
theorem ORow.form (h : ORow w base e v xs) : (v = .slice none 0 0 ∧ xs = []) ∨ ∃ g cap, v = .slice (some ⟨g, 0, none⟩) xs.length cap ∧ base ≤ g ∧ g < w.heap.size ∧ xs.length ≤ cap ∧ cap ≤ maxLen := by
  rcases h.2 with ⟨hn, h0⟩ | ⟨g, cap, cur, hv, hg, hh, hnc, hm, _⟩
  · exact .inl ⟨hn, List.eq_nil_of_length_eq_zero h0⟩
  · exact .inr ⟨g, cap, hv, hg, Blk.lt hh, hnc, hm⟩
theorem ORow.lit (w : World) (base : Nat) (e : TypeId) (cs : Array Value) (hb : base ≤ w.heap.size) (hm : cs.size ≤ maxLen) : ORow (w.alloc (.cells cs e)) base e (.slice (some ⟨w.heap.size, 0, none⟩) cs.size cs.size) cs.toList := by
  have := World.ownsRow_lit (base := base) (e := e) (size := 1) w cs cs.size hb hm (by simp)
  simpa [ORow] using this
theorem ORow.shape (h : ORow w base e v xs) : ∃ A cap, v = .slice A xs.length cap := by
  rcases h.form with ⟨rfl, rfl⟩ | ⟨g, cap, rfl, _⟩
  · exact ⟨_, _, rfl⟩
  · exact ⟨_, _, rfl⟩
theorem ORow.cell {A : Option Addr} {n cap : Nat} (h : ORow w base e (.slice A n cap) xs) {k : Nat} (hk : k < xs.length) :
    ∃ g, A = some ⟨g, 0, none⟩ ∧ base ≤ g ∧ g < w.heap.size ∧ w.cell? ⟨g, k, none⟩ = some xs[k] := by
  rcases h.form with ⟨hv, rfl⟩ | ⟨g, cap', hv, hg, hl, _⟩
  · simp at hk
  · injection hv with h1 h2 h3
    subst h1 h2 h3
    refine ⟨g, rfl, hg, hl, ?_⟩
    rw [World.ownsRow.cellAt h k (by omega)]
    exact List.getElem?_eq_getElem hk
theorem ORow.block {A : Option Addr} {n cap g : Nat} (h : ORow w base e (.slice A n cap) xs) (hA : A = some ⟨g, 0, none⟩) : base ≤ g ∧ g < w.heap.size := by
  rcases h.form with ⟨hv, rfl⟩ | ⟨g', cap', hv, hg, hl, _⟩
  · injection hv with h1; rw [hA] at h1; cases h1
  · injection hv with h1
    rw [hA] at h1
    injection h1 with h1
    injection h1 with h1
    subst h1
    exact ⟨hg, hl⟩

theorem ORow.own_ge (h : ORow w base e v xs) {g : Nat} (hg : v.ownBlock = some g) : base ≤ g := (World.ownsRow.lt h g hg).1
theorem ORow.not_own (h : ORow w base e v xs) {g : Nat} (hg : g < base) : some g ≠ v.ownBlock := fun hc => by have := h.own_ge hc.symm; omega
theorem ORow.kept_far {g : Nat} (h : ORow w base e v xs) (hg : w.grownBy w' (some g)) (hlt : g < base) : ORow w' base e v xs := h.kept hg (.inr fun hc => h.not_own hlt hc.symm)
theorem below_row {a : World} {B : Nat} (h : Below B a w) (k : w.grownBy w' v.ownBlock) (hr : ORow w base e v xs) (hB : B ≤ w.heap.size) (hbase : B ≤ base) : Below B a w' :=
  ⟨k.os.trans h.os, k.tape.trans h.tape, k.output.trans h.output, Nat.le_trans h.size k.size, fun i hi => (k.block i (by omega) (hr.not_own (by omega))).trans (h.block i hi)⟩

/-- One element appended: the value was laid in a new block of its own just before. -/
theorem wp_app1 {ops : Array Oper} {rest : List Oper} {o : Oper} {a : Act} {Q : Exit → Act → World → Prop} (hgd : o.guard = none) (s x : Operand) (t : TypeId)
    (ho : o.op = .call { callee := .builtin .append, args := #[s, x], argTypes := #[t, t] })
    (base : Nat) (e : TypeId) (z : Value) (bytes : Nat) (ht : P.underlying t = some (.slice e)) (hinfo : (P.info? e).map (fun i => (i.zero, i.size, i.bytes)) = some (some z, 1, bytes)) (hz1 : z.cells.size = 1)
    (v : Value) (xs : List Value) (u : Value) (hs : a.eval s = v) (hown : ORow w base e v xs) (hu : u.oneCell' = true)
    (c : Nat) (hx : a.eval x = .slice (some ⟨w.heap.size, 0, none⟩) 1 c)
    (h63 : xs.length + 1 ≤ maxLen) (hbytes : (xs.length + 1) * bytes ≤ 140737488355328) (hbase : base ≤ w.heap.size)
    (h : ∀ v' w', ORow w' base e v' (xs ++ [u]) → w.grownBy w' v.ownBlock → (v'.ownBlock = v.ownBlock ∨ v'.ownBlock = some (w.heap.size + 1)) → wpList P ops Q rest (a.put o.dst v') w') :
    wpList P ops Q (o :: rest) a (w.alloc (.cells #[u] e)) := by
  obtain ⟨i, hi, hz, hsize, hby⟩ := info_parts hinfo
  refine wpList_plain hgd fun K hK => ?_
  obtain ⟨v', w', hrun, h2, h3, _, h5⟩ := run_append_own_at (P := P) (w.alloc (.cells #[u] e)) base t o.type e i z 1 bytes ht hi hz hsize hby hz1 (by decide) v xs.length xs (World.ownsRow.alloc hown _)
    ⟨w.heap.size, 0, none⟩ 1 c [u] rfl (cell_one_new w u e) (fun y hy => by simp at hy; subst hy; exact hu) h63 hbytes (by simp; omega)
  unfold Oper.wp execOp
  simp only [ho, resolve, invoke, builtin, Sem.run_bind, Sem.run_pure, Result.andThen_ok, List.map_toArray, List.map_cons, List.map_nil, hs, hx, hrun]
  refine hK _ _ (h v' w' ?_ ?_ ?_)
  · unfold ORow
    rw [List.length_append]
    exact h2
  · exact ⟨h3.os, h3.tape, h3.output, Nat.le_trans (by simp) h3.size, fun k hk hne => (h3.block k (by simp; omega) hne).trans (Below.heap_alloc w _ k hk)⟩
  · simpa using h5

/-- The same where only the blocks below base matter. -/
theorem wp_app1b {ops : Array Oper} {rest : List Oper} {o : Oper} {a : Act} {Q : Exit → Act → World → Prop} (hgd : o.guard = none) (s x : Operand) (t : TypeId)
    (ho : o.op = .call { callee := .builtin .append, args := #[s, x], argTypes := #[t, t] })
    (base : Nat) (e : TypeId) (z : Value) (bytes : Nat) (ht : P.underlying t = some (.slice e)) (hinfo : (P.info? e).map (fun i => (i.zero, i.size, i.bytes)) = some (some z, 1, bytes)) (hz1 : z.cells.size = 1)
    (v : Value) (xs : List Value) (u : Value) (hs : a.eval s = v) (hown : ORow w base e v xs) (hu : u.oneCell' = true)
    (c : Nat) (hx : a.eval x = .slice (some ⟨w.heap.size, 0, none⟩) 1 c)
    (h63 : xs.length + 1 ≤ maxLen) (hbytes : (xs.length + 1) * bytes ≤ 140737488355328) (hbase : base ≤ w.heap.size)
    (h : ∀ v' w', ORow w' base e v' (xs ++ [u]) → Below base w w' → wpList P ops Q rest (a.put o.dst v') w') :
    wpList P ops Q (o :: rest) a (w.alloc (.cells #[u] e)) := by
  refine wp_app1 hgd s x t ho base e z bytes ht hinfo hz1 v xs u hs hown hu c hx h63 hbytes hbase fun v' w' h1 h2 _ => h v' w' h1 ?_
  refine ⟨h2.os, h2.tape, h2.output, h2.size, fun k hk => h2.block k (by omega) fun hc => ?_⟩
  have := World.ownsRow.lt hown k hc.symm
  omega
end

section
variable {P : Program} {w : World}
/-- Several elements appended at once, laid in a new block of their own just before. -/
theorem wp_appNb {ops : Array Oper} {rest : List Oper} {o : Oper} {a : Act} {Q : Exit → Act → World → Prop} (hgd : o.guard = none) (s x : Operand) (t : TypeId)
    (ho : o.op = .call { callee := .builtin .append, args := #[s, x], argTypes := #[t, t] })
    (base : Nat) (e : TypeId) (z : Value) (bytes : Nat) (ht : P.underlying t = some (.slice e)) (hinfo : (P.info? e).map (fun i => (i.zero, i.size, i.bytes)) = some (some z, 1, bytes)) (hz1 : z.cells.size = 1)
    (v : Value) (xs : List Value) (C : Array Value) (m : Nat) (hs : a.eval s = v) (hown : ORow w base e v xs) (hu : ∀ u ∈ C.toList, u.oneCell' = true) (hm : C.size = m)
    (c : Nat) (hx : a.eval x = .slice (some ⟨w.heap.size, 0, none⟩) m c)
    (h63 : xs.length + m ≤ maxLen) (hbytes : (xs.length + m) * bytes ≤ 140737488355328) (hbase : base ≤ w.heap.size)
    (h : ∀ v' w', ORow w' base e v' (xs ++ C.toList) → Below base w w' → wpList P ops Q rest (a.put o.dst v') w') :
    wpList P ops Q (o :: rest) a (w.alloc (.cells C e)) := by
  obtain ⟨i, hi, hz, hsize, hby⟩ := info_parts hinfo
  refine wpList_plain hgd fun K hK => ?_
  have hb0 : (w.alloc (.cells C e)).heap[w.heap.size]? = some (.cells C e (0, 0)) := heap_alloc_new w _
  obtain ⟨v', w', hrun, h2, h3, _, h5⟩ := run_append_own_at (P := P) (w.alloc (.cells C e)) base t o.type e i z 1 bytes ht hi hz hsize hby hz1 (by decide) v xs.length xs (World.ownsRow.alloc hown _)
    ⟨w.heap.size, 0, none⟩ m c C.toList (by simp [hm]) (World.news_of_block hb0) hu h63 hbytes (by simp; omega)
  unfold Oper.wp execOp
  simp only [ho, resolve, invoke, builtin, Sem.run_bind, Sem.run_pure, Result.andThen_ok, List.map_toArray, List.map_cons, List.map_nil, hs, hx, hrun]
  refine hK _ _ (h v' w' ?_ ?_)
  · unfold ORow
    rw [List.length_append, show C.toList.length = m from hm]
    exact h2
  · refine ⟨h3.os, h3.tape, h3.output, Nat.le_trans (by simp) h3.size, fun k hk => (h3.block k (by simp; omega) fun hc => ?_).trans (Below.heap_alloc w _ k (by omega))⟩
    have := World.ownsRow.lt hown k hc.symm
    omega
end

/-! Bytes. -/
def bV (b : UInt8) : Value := .int .u8 (b.toNat : Int)
def iV (n : Int) : Value := .int .i64 n
theorem bV_of (n : Int) (h0 : 0 ≤ n) (h1 : n < 256) : Value.int .u8 n = bV (UInt8.ofNat n.toNat) := by
  unfold bV
  have e1 : (UInt8.ofNat n.toNat).toNat = n.toNat := UInt8.toNat_ofNat_of_lt' (show n.toNat < 256 by omega)
  rw [e1]
  congr 1
  omega

section
variable {P : Program} {w w' : World} {base : Nat} {e : TypeId} {v : Value}
/-- string(b), b nil or the call's own. -/
theorem run_string_of_row (src dst : TypeId) (l : List UInt8) (hs : P.underlying src = some (.slice e)) (he : P.underlying e = some (.int .u8)) (hd : P.underlying dst = some .string) (h : ORow w base e v (l.map bV)) :
    (convert src dst v).run P w = .ok (.string ⟨l.toArray⟩) w := by
  rcases h.form with ⟨rfl, hn⟩ | ⟨g, cap, hv, _⟩
  · have : l = [] := by simpa using hn
    subst this
    exact Lib.run_convert_nil_bytes w src dst e 0 hs he hd
  · subst hv
    simp only [List.length_map]
    refine run_convert_bytes_back w src dst e ⟨g, 0, none⟩ cap l hs he hd fun j hj => ?_
    have hj' : j < (l.map bV).length := by simpa using hj
    obtain ⟨g', hg, _, _, hc⟩ := h.cell hj'
    injection hg with hg
    injection hg with hg
    subst hg
    have e1 : (⟨g, 0, none⟩ : Addr).add j = ⟨g, j, none⟩ := by unfold Addr.add; split <;> simp_all
    rw [e1, hc]
    simp [bV]
end

end Go.Proofs.YtjepnddndpmnnaaGreatDoor
namespace Go.Proofs.YtjepnddndpmnnaaGreatDoor
open Go.RowKit

theorem ret_bool {a b : Bool} (h : a = b) : Ending.returned (.bool a) = .returned (.bool b) := by rw [h]
theorem ret_int {k : IntKind} {a b : Int} (h : a = b) : Ending.returned (.int k a) = .returned (.int k b) := by rw [h]




theorem i64_and63 (r : Int) (h0 : 0 ≤ r) (h1 : r < 9223372036854775808) : bits .and .i64 r 63 = r % 64 :=
  bits_mask .i64 63 (by decide) (fun n a b => by rw [IntKind.wrap_i64]; omega) 6 (by decide) r h0 h1


theorem Tryz.info5 : (Tryz.prog.info? 5).map (fun i => (i.zero, i.size, i.bytes)) = some (some (.int .u8 0), 1, 1) := by kernel_rfl
theorem Tryz.info3 : (Tryz.prog.info? 3).map (fun i => (i.zero, i.size, i.bytes)) = some (some (.int .i64 0), 1, 8) := by kernel_rfl
end Go.Proofs.YtjepnddndpmnnaaGreatDoor
