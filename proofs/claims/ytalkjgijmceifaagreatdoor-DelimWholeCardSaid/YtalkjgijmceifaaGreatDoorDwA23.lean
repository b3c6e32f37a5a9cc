/-
  What every row of this seat's laws shares: the variables that are listed, a world that holds them, what the walks lean on out of them; (stage 9).
  An event told to a Check: what waits then. Plain functions; no program is read here.
  The delim syntax as a plain function on bytes: the machine, its step, its end. No program is read here.
  A list of events that a call has made: appended to, read; it and a Check keep clear of each other.
-/
import Derived.Test.YtalkjgijmceifaaGreatDoorRows
import Derived.Test.YtalkjgijmceifaaGreatDoorCards
import Derived.Test.YtalkjgijmceifaaGreatDoorTie
import Derived.Test.YtalkjgijmceifaaGreatDoorDwA22
import Derived.Deep.Slices
import Derived.Deep.Fields
import Derived.ChangeSame
import Derived.SizedLaws
import Derived.ProofKit
import Derived.OpenShut
import Derived.ShutString
import Derived.Deep.DeepHandedRow
import Derived.Lib.LaidTab
import Derived.Lay
import Derived.Stop.LaidErr
import Derived.SevenTiedAt
import Derived.Test.YtalkjgijmceifaaGreatDoorDwA05
namespace Go.Proofs.YtalkjgijmceifaaGreatDoor
open Go.RowKit Go.ChangeShapes Go.WideShapes Go.Deep
set_option maxRecDepth 100000

theorem own : ownKnob Tryz.prog.godebug = none := by kernel_rfl
theorem laidOut : laidOutB Tryz.prog = true := by kernel_rfl
def laidL : List (String × DataW Unit) := Rows.delimWholeRow.laid
theorem laidL_eq : laidL = [("math/bits.deBruijn32tab", Rows.laid_math_bits_deBruijn32tab), ("math/bits.deBruijn64tab", Rows.laid_math_bits_deBruijn64tab), ("internal/strconv.uint64pow10", Rows.laid_internal_strconv_uint64pow10), ("unicode/utf8.acceptRanges", Rows.laid_unicode_utf8_acceptRanges), ("strconv.ErrRange", Rows.laid_strconv_ErrRange), ("strconv.ErrSyntax", Rows.laid_strconv_ErrSyntax), ("unicode/utf8.first", Rows.laid_unicode_utf8_first)] := rfl

theorem laid_met (os : Os) (args : Array Value) : laidMetH Tryz.prog laidL ((World.laidAll Tryz.prog os laidL).forCall (fun _ _ => 0) ⟨#[], args, []⟩).memory := by
  rw [MakeChecks.laidMetH_plain _ _ _ (by kernel_rfl)]
  exact laidMet_laidAll _ (by kernel_rfl) (by kernel_rfl)
theorem shapedW (os : Os) (args : Array Value) : ((World.laidAll Tryz.prog os laidL).forCall (fun _ _ => 0) ⟨#[], args, []⟩).Shaped Tryz.prog :=
  World.shaped_of_ZipB (by kernel_rfl) (by kernel_rfl)

theorem pow_data : (Rows.laid_internal_strconv_uint64pow10 : DataW Unit) = Lib.tabData .u64 Lib.pow10Tab := by kernel_rfl
theorem tPow : (Tryz.prog.globals[5]?).map (·.type) = some 178 := by kernel_rfl
theorem tRange : (Tryz.prog.globals[2]?).map (·.type) = some 143 := by kernel_rfl
theorem star : "*" ++ "errors.errorString" = "*errors.errorString" := by decide
theorem row_err (u : TypeId) (h : Tryz.prog.typeName? 3 u = some "*errors.errorString") : u = 182 :=
  typeName_ptr_named (nm := "errors.errorString") (by rw [star]; kernel_rfl) (by kernel_rfl) (by decide) u (by rw [star]; exact h)
/-- The table that the program's text lays. -/
@[reducible] def tab0 : Tab := ⟨Lib.pow10Tab, by unfold okTab; decide +kernel⟩
theorem std_of {W : World} (hL : laidMetH Tryz.prog laidL W) (hsh : W.ShapedOpen Tryz.prog) : @Nm.StdW tab0 W := by
  rw [MakeChecks.laidMetH_plain _ _ _ (by kernel_rfl), laidL_eq] at hL
  refine @Nm.StdW.mk tab0 W (Tryz.laysM145.s1_3 W hsh) ?_ ?_
  · have h5 := hL.tail.tail.tail.tail
    unfold Rows.laid_strconv_ErrRange at h5
    obtain ⟨a, s, h, _⟩ := laid_sentinel h5 Nm.gRange tRange Tryz.underlying143 row_err Tryz.underlying182 Tryz.underlying184 rfl rfl Tryz.underlying9 (by kernel_rfl) (by kernel_rfl)
    have hc := World.var?_cell Nm.gRange h 0
    exact ⟨_, by simpa using hc, .inr ⟨_, _, rfl⟩⟩
  · have h3 := hL.tail.tail
    rw [pow_data] at h3
    exact Lib.tabIs_of_head Nm.gPow tPow Tryz.underlying178 Tryz.underlying154 (by kernel_rfl) (by kernel_rfl) h3
end Go.Proofs.YtalkjgijmceifaaGreatDoor
namespace Go.Proofs.YtalkjgijmceifaaGreatDoor
set_option linter.unusedSectionVars false
variable [Tab]
def tellL (st : List Pt) (l : List Ev) (x : Ev) : List Ev := if stepE st x = 0 then l ++ [x] else l
theorem tellL_len (st : List Pt) (l : List Ev) (x : Ev) : (tellL st l x).length ≤ l.length + 1 := by
  unfold tellL; split <;> simp
/-- An event of a kind alone. -/
def bare (k : Int) : Ev := ⟨k, ⟨#[]⟩, ⟨#[]⟩⟩
theorem bare_size (k : Int) : (bare k).t.size ≤ 140737488355328 := Nat.zero_le _
end Go.Proofs.YtalkjgijmceifaaGreatDoor
namespace Go.Proofs.YtalkjgijmceifaaGreatDoor
set_option maxRecDepth 100000
set_option linter.unusedSectionVars false
variable [Tab]

/-- The machine: where the next byte stands; the names of the columns; whether the header has ended; the cells of the open row that were told; what the open cell says up to now. -/
structure Dm where
  a : Int
  cols : List (List UInt8)
  hd : Bool
  n : Nat
  c : List UInt8
def dm0 : Dm := ⟨0, [], false, 0, []⟩
structure Ds where
  m : Dm
  st : List Pt
  l : List Ev
structure Dr where
  b : Ds
  e : Int
def ds0 : Ds := ⟨dm0, [topP], []⟩
def tellD (m : Dm) (st : List Pt) (l : List Ev) (x : Ev) : Dr := ⟨⟨m, stepS st x, tellL st l x⟩, stepE st x⟩
def addD (s : Ds) (b : UInt8) : Dr := if 48 ≤ s.m.c.length then ⟨s, 4⟩ else ⟨{ s with m := { s.m with c := s.m.c ++ [b] } }, 0⟩
def addColD (s : Ds) (t : List UInt8) (last : Bool) : Dr :=
  if t ∈ s.m.cols then ⟨s, 6⟩
  else ⟨{ s with m := { s.m with cols := s.m.cols ++ [t] } }, if last = false ∧ s.m.cols.length + 1 = 8 then 16 else 0⟩
/-- The Map ahead of a row's first cell. -/
def rowD (s : Ds) : Dr := if s.m.n = 0 then tellD s.m s.st s.l (bare 7) else ⟨s, 0⟩
def colD (s : Ds) : List UInt8 := s.m.cols.getD s.m.n []
def keyD (s : Ds) : Dr := tellD s.m s.st s.l ⟨8, ⟨(colD s).toArray⟩, ⟨#[]⟩⟩
def textD (s : Ds) (t : List UInt8) : Dr := tellD { s.m with n := s.m.n + 1 } s.st s.l ⟨4, ⟨t.toArray⟩, ⟨#[]⟩⟩
def tellCellD (s : Ds) (t : List UInt8) : Dr :=
  if (rowD s).e ≠ 0 then rowD s
  else if (keyD (rowD s).b).e ≠ 0 then keyD (rowD s).b
  else textD (keyD (rowD s).b).b t
def countD (s : Ds) (last : Bool) : Dr :=
  if last ≠ decide (s.m.n = s.m.cols.length) then ⟨s, 17⟩
  else if last = false then ⟨s, 0⟩ else tellD { s.m with n := 0 } s.st s.l (bare 9)
def emptyD (s : Ds) : Ds := { s with m := { s.m with c := [] } }
def endCellD (s : Ds) (last : Bool) : Dr :=
  if s.m.hd = false then addColD { s with m := { s.m with c := [], hd := last } } s.m.c last
  else if (tellCellD (emptyD s) s.m.c).e ≠ 0 then tellCellD (emptyD s) s.m.c
  else countD (tellCellD (emptyD s) s.m.c).b last
def setA (s : Ds) (a : Int) : Ds := { s with m := { s.m with a := a } }
def outD (s : Ds) (b : UInt8) : Dr :=
  if b.toNat = 44 then endCellD (setA s 2) false
  else if b.toNat = 10 then endCellD (setA s 1) true
  else if b.toNat < 32 ∨ b.toNat = 34 ∨ s.m.a = 5 then ⟨s, 2⟩ else addD s b
def cellD (s : Ds) (b : UInt8) : Dr := if b.toNat = 34 then ⟨setA s 4, 0⟩ else outD (setA s 3) b
def listD (s : Ds) : Dr := tellD s.m s.st s.l (bare 5)
def stepD (s : Ds) (b : UInt8) : Dr :=
  if s.m.a = 0 then (if (listD s).e ≠ 0 then listD s else cellD (listD s).b b)
  else if s.m.a = 1 ∨ s.m.a = 2 then cellD s b
  else if s.m.a = 4 then (if b.toNat = 34 then ⟨setA s 5, 0⟩ else addD s b)
  else if s.m.a = 5 ∧ b.toNat = 34 then addD (setA s 4) b
  else outD s b
def endD (s : Ds) : Dr :=
  if s.m.a = 0 then listD s else if s.m.a = 4 then ⟨s, 2⟩ else if s.m.a = 1 then ⟨s, 0⟩ else endCellD s true
def finD (s : Ds) : Dr := if (endD s).e ≠ 0 then endD s else tellD (endD s).b.m (endD s).b.st (endD s).b.l (bare 6)
end Go.Proofs.YtalkjgijmceifaaGreatDoor
namespace Go.Proofs.YtalkjgijmceifaaGreatDoor
open Go.RowKit Go.Maps
set_option maxRecDepth 100000
set_option linter.unusedSectionVars false
variable [Tab] [Fo]

def evc (x : Ev) : List Value := [.int .i64 x.k, .string x.t, .string x.v]
def evcs (l : List Ev) : List Value := l.flatMap evc
theorem evcs_len (l : List Ev) : (evcs l).length = l.length * 3 := by
  induction l with
  | nil => rfl
  | cons x l ih => simp only [evcs, List.flatMap_cons, List.length_append, List.length_cons] at ih ⊢; rw [ih]; simp [evc]; omega
theorem evcs_get : ∀ (l : List Ev) (k : Nat) (h : k < l.length) (j : Nat) (_ : j < 3), (evcs l)[k * 3 + j]? = (evc l[k])[j]?
  | x :: l, 0, _, j, hj => by
    simp only [evcs, List.flatMap_cons]
    rw [List.getElem?_append_left (by simp [evc]; omega)]
    simp
  | x :: l, k + 1, h, j, hj => by
    have ih := evcs_get l k (by simpa using h) j hj
    simp only [evcs, List.flatMap_cons] at ih ⊢
    rw [List.getElem?_append_right (by simp [evc]; omega), show (k + 1) * 3 + j - (evc x).length = k * 3 + j by simp [evc]; omega, ih]
    simp
theorem evcs_snoc (l : List Ev) (x : Ev) : evcs (l ++ [x]) = evcs l ++ evc x := by simp [evcs]
theorem Tryz.infoEv : (Tryz.prog.info? 38).map (fun i => (i.zero, i.size, i.bytes)) = some (some (.agg #[.int .i64 0, .string ⟨#[]⟩, .string ⟨#[]⟩]), 3, 40) := by kernel_rfl

def ERow (w : World) (base : Nat) (v : Value) (l : List Ev) : Prop := w.ownsRow base 38 3 v l.length (evcs l)
def eObj : Obj → Prop
  | .cells _ t _ => t = 38
  | _ => False
theorem ERow.nil (w : World) (base : Nat) : ERow w base (.slice none 0 0) [] := World.ownsRow_nil w base _ 3
theorem ERow.read {w : World} {base : Nat} {v : Value} {l : List Ev} (h : ERow w base v l) : ERead w v l := by
  have hr := h
  unfold ERow at hr
  rcases hr.2 with ⟨rfl, h0⟩ | ⟨r, c, cur, rfl, hg, hh, hnc, hm, hs, ht⟩
  · exact ⟨none, 0, by rw [h0], by omega, Nat.zero_le _, fun hp => by omega⟩
  · refine ⟨some ⟨r, 0, none⟩, c, rfl, hnc, hm, fun _ => ⟨r, 0, rfl, fun j hj => ?_⟩⟩
    have hat : ∀ i, i < 3 → w.cell? ⟨r, j * 3 + i, none⟩ = (evc l[j])[i]? := by
      intro i hi
      rw [Blk.cell hh, ← evcs_get l j hj i hi, ← ht, List.getElem?_take_of_lt (by omega), Array.getElem?_toList]
    rw [Nat.zero_add]
    have h0 := hat 0 (by omega)
    have h1 := hat 1 (by omega)
    have h2 := hat 2 (by omega)
    exact ⟨h0, h1, h2⟩
theorem ERow.below {w w' : World} {base : Nat} {v : Value} {l : List Ev} (h : ERow w base v l) (hb : Below w.heap.size w w') : ERow w' base v l :=
  row_tch (base := base) (p := fun _ => False) h (Tch.of_below hb) (fun _ _ h => h)
theorem ERow.of_c {w w' : World} {base : Nat} {v : Value} {l : List Ev} (h : ERow w base v l) (ht : Tch base cObj w w') : ERow w' base v l :=
  row_tch h ht (fun _ _ => by simp only [cObj]; decide)
theorem CAt.of_e {w w' : World} {base g : Nat} {st : List Pt} (h : CAt w base g st) (ht : Tch base eObj w w') : CAt w' base g st :=
  h.tch ht (fun cs t fr h hc => by simp only [eObj] at hc; rcases h with rfl | rfl <;> exact absurd hc (by decide)) (fun _ _ hc => hc)
theorem ERow.shape {w : World} {base : Nat} {v : Value} {l : List Ev} (h : ERow w base v l) : ∃ A c, v = .slice A l.length c := by
  rcases h.2 with ⟨rfl, h0⟩ | ⟨g, cap, cur, rfl, _⟩
  · exact ⟨_, _, by rw [h0]⟩
  · exact ⟨_, _, rfl⟩
theorem ERow.alloc {w : World} {base : Nat} {v : Value} {l : List Ev} (h : ERow w base v l) (o : Obj) : ERow (w.alloc o) base v l := World.ownsRow.alloc h o
theorem erow_push {w w' : World} {base : Nat} {v v' : Value} {l : List Ev} {x : Ev} {o : Obj} (h : ERow w base v l) (hf : NF v) (hg : (w.alloc o).grownBy w' v.ownBlock)
    (hr : w'.ownsRow base 38 3 v' (l.length + 1) (evcs l ++ [.int .i64 x.k, .string x.t, .string x.v])) : ERow w' base v' (l ++ [x]) ∧ Tch base eObj w w' := by
  refine ⟨?_, ((Tch.refl base eObj w).alloc o).trans (Tch.of_row (h.alloc o) hg (Nat.le_refl _) hf (fun _ => rfl))⟩
  unfold ERow
  rw [evcs_snoc, List.length_append]
  exact hr

end Go.Proofs.YtalkjgijmceifaaGreatDoor
