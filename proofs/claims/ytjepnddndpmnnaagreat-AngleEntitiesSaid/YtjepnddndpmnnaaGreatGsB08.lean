/-
  num's Read and Compare: their contracts.
  What an open number tells, and blanks: plain functions. No program is read here.
  The angle syntax as a plain function on bytes: the machine, its step, its end. No program is read here.
  Contracts of the small functions of src and of its reference: pure computations on numbers.
  A scope out of which the run jumps forward, a few times at most: to whichever label.
  New, Step and Whole: a Scan is a block of three cells; a step turns that block alone.
-/
import Derived.Test.YtjepnddndpmnnaaGreatGsB07
import Derived.Deep.RegionHeld3
import Derived.IntWalk
import Derived.Stop.LaidErr
import Derived.Test.YtjepnddndpmnnaaGreatGsB03
import Derived.Test.YtjepnddndpmnnaaGreatGsB04
import Derived.Test.YtjepnddndpmnnaaGreatChecked
import Derived.Test.YtjepnddndpmnnaaGreatGsB05
import Derived.Test.YtjepnddndpmnnaaGreatGsB01
import Derived.WalkKit
import Derived.WalkSpells
import Derived.WalkLawsBesides
import Derived.Lib.Hide
import Derived.WalkMore
import Derived.ScopeJumps
namespace Go.Proofs.YtjepnddndpmnnaaGreat.Nm
open Go.RowKit
set_option maxRecDepth 100000
set_option linter.unusedSectionVars false
variable [Tab]

def readS (l : List UInt8) : ByteArray := match readL l with | some v => ⟨(formL v).toArray⟩ | none => ⟨#[]⟩
def readC (l : List UInt8) : Int := match readL l with | some _ => 0 | none => 8
theorem readS_some {l : List UInt8} {v : Val} (h : readL l = some v) : readS l = ⟨(formL v).toArray⟩ := by unfold readS; rw [h]
theorem readC_some {l : List UInt8} {v : Val} (h : readL l = some v) : readC l = 0 := by unfold readC; rw [h]
theorem readS_none {l : List UInt8} (h : readL l = none) : readS l = ⟨#[]⟩ := by unfold readS; rw [h]
theorem readC_none {l : List UInt8} (h : readL l = none) : readC l = 8 := by unfold readC; rw [h]

set_option maxHeartbeats 400000 in
theorem read_any (s : ByteArray) (w : World) (hw : StdW w) (hs : s.size ≤ 9223372036854775807) :
    Calls Tryz.prog 171 #[.string s] w fun e w' => e = .returned (.tuple #[.string (readS s.data.toList), .int .i64 (readC s.data.toList)]) ∧ Below w.heap.size w w' := by
  cases h : readL s.data.toList with
  | none =>
    rw [readS_none h, readC_none h]
    have hp := parse_no s
    unfold zeroA at hp
    have HP := Lib.hid hp
    have H := Lib.hid h
    clear h hp
    go_enter Tryz.func171, Tryz.ntmps171
    go_wp2_with (first
      | (go_at_call 175; refine (HP.out _ hw hs H.out).mono ?_; rintro e w1 ⟨rfl, hb1⟩))
    go_ret2
    refine ⟨rfl, ?_⟩
    exact hb1.alloc hb1.size _
  | some v =>
    rw [readS_some h, readC_some h]
    have hp := parse_yes s v
    unfold decA at hp
    have HP := Lib.hid hp
    have H := Lib.hid h
    clear h hp
    go_enter Tryz.func171, Tryz.ntmps171
    go_wp2_with (first
      | (go_at_call 175; refine (HP.out _ hw hs H.out).mono ?_; rintro e w1 ⟨rfl, hb1⟩))
    go_ret2
    refine ⟨rfl, ?_⟩
    exact hb1.alloc hb1.size _

def cmpN (a b : List UInt8) : Int := match readL a, readL b with | some x, some y => cmpV x y | _, _ => 0
def cmpC (a b : List UInt8) : Int := match readL a, readL b with | some _, some _ => 0 | _, _ => 8
theorem cmpN_some {a b : List UInt8} {x y : Val} (h : readL a = some x) (h2 : readL b = some y) : cmpN a b = cmpV x y := by unfold cmpN; rw [h, h2]
theorem cmpC_some {a b : List UInt8} {x y : Val} (h : readL a = some x) (h2 : readL b = some y) : cmpC a b = 0 := by unfold cmpC; rw [h, h2]
theorem cmpN_none {a b : List UInt8} (h : readL a = none ∨ readL b = none) : cmpN a b = 0 := by
  unfold cmpN; rcases h with h | h
  · rw [h]
  · rw [h]; cases readL a <;> rfl
theorem cmpC_none {a b : List UInt8} (h : readL a = none ∨ readL b = none) : cmpC a b = 8 := by
  unfold cmpC; rcases h with h | h
  · rw [h]
  · rw [h]; cases readL a <;> rfl

/-- What parse hands back. -/
def parA (l : List UInt8) : Value := match readL l with | some v => decA v | none => zeroA
def parF (l : List UInt8) : ByteArray := readS l
def parB (l : List UInt8) : Bool := (readL l).isSome
theorem parse_any (s : ByteArray) (w : World) (hw : StdW w) (hs : s.size ≤ 9223372036854775807) :
    Calls Tryz.prog 175 #[.string s] w fun e w' => e = .returned (.tuple #[parA s.data.toList, .string (readS s.data.toList), .bool (parB s.data.toList)]) ∧ Below w.heap.size w w' := by
  unfold parA parB
  cases h : readL s.data.toList with
  | none => rw [readS_none h]; exact parse_no s w hw hs h
  | some v => rw [readS_some h]; exact parse_yes s v w hw hs h
theorem parA_agg (l : List UInt8) : ∃ S D P, parA l = .agg #[.int .i64 S, .string D, .int .i64 P] := by
  unfold parA
  cases readL l with
  | none => exact ⟨_, _, _, rfl⟩
  | some v => exact ⟨_, _, _, rfl⟩

theorem okV_of {l : List UInt8} {v : Val} (h : readL l = some v) : -999 ≤ v.pow ∧ v.pow ≤ 999 ∧ (formL v).length ≤ 30 ∧ v.digs.length ≤ 30 := by
  unfold readL readE at h
  split at h
  · rename_i hc
    split at h
    · rename_i hk
      injection h with h
      rw [h] at hk
      have := of_decide_eq_true hk
      exact ⟨this.1, this.2.1, this.2.2, by rw [← h]; exact digs_len _ _ hc.2⟩
    · cases h
  · cases h

theorem cmpI_01 (a b : Int) : cmpI a b = -1 ∨ cmpI a b = 0 ∨ cmpI a b = 1 := by
  unfold cmpI
  by_cases h : a < b
  · rw [if_pos h]; exact .inl rfl
  · rw [if_neg h]
    by_cases h2 : b < a
    · rw [if_pos h2]; exact .inr (.inr rfl)
    · rw [if_neg h2]; exact .inr (.inl rfl)
theorem keep_cell {wc w' : World} {p : Addr} {u : Value} (hb : Below wc.heap.size wc w') (h : wc.cell? p = some u) : w'.cell? p = some u := (hb.cell (cell_lt h)).trans h
theorem keep_bel {w wc w' : World} (hb : Below wc.heap.size wc w') (h : Hid (Below w.heap.size w wc)) : Hid (Below w.heap.size w w') := Lib.hid (h.out.trans (hb.mono h.out.size))
theorem keep_cdrew {wc : World} {p : Addr} {u : Value} (h : wc.cell? p = some u) : wc.drew.cell? p = some u := h
theorem keep_last {a b c d e f g : Prop} (h : a ∧ b ∧ c ∧ d ∧ e ∧ f ∧ Hid g) : g := h.2.2.2.2.2.2.out
theorem keep_drew {w wc : World} (h : Hid (Below w.heap.size w wc)) : Hid (Below w.heap.size w wc.drew) := Lib.hid (below_drew h.out)
theorem cmpSz_01 (x y : Val) : cmpSz x y = -1 ∨ cmpSz x y = 0 ∨ cmpSz x y = 1 := by
  unfold cmpSz
  split
  · exact cmpI_01 _ _
  · exact lexC_01 _ _

end Go.Proofs.YtjepnddndpmnnaaGreat.Nm
namespace Go.Proofs.YtjepnddndpmnnaaGreat
set_option linter.unusedSectionVars false
variable [Tab]
def mayB1 (nm : ByteArray) (b : UInt8) : Bool := Nm.begB (nm.data.toList ++ [b])
def blankB (b : UInt8) : Bool := decide (b.toNat = 32 ∨ b.toNat = 9 ∨ b.toNat = 10 ∨ b.toNat = 13)
/-- What End tells: the normal form, and an error. -/
def endS (nm : ByteArray) : ByteArray := if Nm.isB nm.data.toList = true then Nm.readS nm.data.toList else ⟨#[]⟩
def endC (nm : ByteArray) : Int := if Nm.isB nm.data.toList = true then Nm.readC nm.data.toList else 2
theorem endS_size (nm : ByteArray) : (endS nm).size ≤ 30 := by
  unfold endS
  split
  · generalize nm.data.toList = l
    cases h : Nm.readL l with
    | none => rw [Nm.readS_none h]; exact Nat.zero_le _
    | some v =>
      rw [Nm.readS_some h]
      have h2 : Nm.okV v = true := by
        unfold Nm.readL Nm.readE at h
        split at h
        · split at h
          · rename_i hok
            injection h with h
            rw [← h]; exact hok
          · cases h
        · cases h
      unfold Nm.okV at h2
      have h3 := (of_decide_eq_true h2).2.2
      show (Nm.formL v).toArray.size ≤ 30
      rw [List.size_toArray]
      exact h3
  · exact Nat.zero_le _
end Go.Proofs.YtjepnddndpmnnaaGreat
namespace Go.Proofs.YtjepnddndpmnnaaGreat
set_option maxRecDepth 100000
set_option linter.unusedSectionVars false
variable [Tab]

/-- A name as it is written: its prefix, or none; its local name. -/
structure Na where
  p : List UInt8
  l : List UInt8
deriving DecidableEq
/-- The machine: where the next byte stands; what the open mark lacks; the open definition's name, as it grows and whole; the entities; the open raw text, its expansion, whether a reference is open, and its name; the open name, behind and ahead of its colon; the open tag's name, the open attribute's, the tag's attributes; the end tag's name; the open elements; the scopes. -/
structure Ag where
  a : Int
  rest : List UInt8
  ent : List UInt8
  nmd : List UInt8
  L : EnL
  told : Nat
  rt : List UInt8
  rr : Bool
  rn : List UInt8
  nt : List UInt8
  np : List UInt8
  el : Na
  an : Na
  ats : List (Na × List UInt8)
  en : Na
  op : List Na
  sc : Ns.St
def ag0 : Ag := ⟨0, [], [], [], [], 0, [], false, [], [], [], ⟨[], []⟩, ⟨[], []⟩, [], ⟨[], []⟩, [], []⟩
structure As where
  m : Ag
  st : List Pt
  l : List Ev
structure Ar where
  b : As
  e : Int
/-- What a call that tells nothing leaves of the machine. -/
structure Mr where
  m : Ag
  e : Int
def as0 : As := ⟨ag0, [topP], []⟩
def bs (l : List UInt8) : ByteArray := ⟨l.toArray⟩
def As.mr (s : As) (r : Mr) : Ar := ⟨{ s with m := r.m }, r.e⟩
def tellA (s : As) (x : Ev) : Ar := ⟨⟨s.m, stepS s.st x, tellL s.st s.l x⟩, stepE s.st x⟩

/-! Local names, byte by byte. -/
def goesN (t : List UInt8) (b : UInt8) : Bool := localL (t.take 1 ++ [b])

/-! Raw text. -/
def putR (s : Ag) (t : List UInt8) : Mr := if 48 < s.rt.length + t.length then ⟨s, 4⟩ else ⟨{ s with rt := s.rt ++ t }, 0⟩
def getA (s : Ag) : GR := getE s.L s.told s.rn
def referA (s : Ag) (b : UInt8) : Mr :=
  if goesN s.rn b = true then (if 16 ≤ s.rn.length then ⟨s, 2⟩ else ⟨{ s with rn := s.rn ++ [b] }, 0⟩)
  else if s.rn = [] ∨ b.toNat ≠ 59 then ⟨{ s with rn := [] }, 2⟩
  else if (getA s).e ≠ 0 then ⟨{ s with rn := [], told := (getA s).told }, (getA s).e⟩
  else putR { s with rn := [], told := (getA s).told, rr := false } (getA s).s
def addR (s : Ag) (b : UInt8) : Mr :=
  if s.rr = true then referA s b
  else if b.toNat = 38 then ⟨{ s with rr := true }, 0⟩
  else if b.toNat = 60 ∨ (b.toNat < 32 ∧ blankB b = false) then ⟨s, 2⟩
  else putR s [b]
def endedA (s : Ag) (b : UInt8) (c : Nat) : Bool := decide (b.toNat = c) && !s.rr

/-! Names. -/
def goesA (s : Ag) (b : UInt8) : Bool := goesN s.nt b || (decide (b.toNat = 58) && decide (s.np = []))
def nameAdd (s : Ag) (b : UInt8) : Mr :=
  if b.toNat ≠ 58 then (if 16 ≤ s.nt.length then ⟨s, 4⟩ else ⟨{ s with nt := s.nt ++ [b] }, 0⟩)
  else ⟨{ s with np := s.nt, nt := [] }, if s.nt = [] then 2 else 0⟩
def nameOf (s : Ag) : Na := ⟨s.np, s.nt⟩
def nameGone (s : Ag) : Ag := { s with nt := [], np := [] }
def mustA (s : Ag) (b : UInt8) (c : Nat) (a : Int) : Mr := if b.toNat ≠ c then ⟨s, 2⟩ else ⟨{ s with a := a }, 0⟩

/-! Definitions. -/
def markedA (s : Ag) (b : UInt8) : Mr :=
  if b ≠ s.rest.headD 0 then ⟨s, 2⟩
  else if s.rest.tail = [] then ⟨{ s with rest := [], a := 3 }, 0⟩ else ⟨{ s with rest := s.rest.tail }, 0⟩
def entNameA (s : Ag) (b : UInt8) : Mr :=
  if goesN s.ent b = true then (if 16 ≤ s.ent.length then ⟨s, 4⟩ else ⟨{ s with ent := s.ent ++ [b] }, 0⟩)
  else if s.ent = [] then ⟨{ s with nmd := [], ent := [] }, 2⟩
  else mustA { s with nmd := s.ent, ent := [] } b 32 4
def entTextA (s : Ag) (b : UInt8) : Mr := if endedA s b 34 = true then ⟨{ s with a := 6 }, 0⟩ else addR s b
def defineA (s : Ag) (b : UInt8) : Mr :=
  if b.toNat ≠ 62 then ⟨s, 2⟩ else ⟨{ s with a := 0, rt := [], L := defE s.L s.nmd s.rt }, defC s.L s.nmd s.rt⟩

/-! Tags. -/
def xmlnsL : List UInt8 := [120, 109, 108, 110, 115]
/-- The prefix that an attribute binds. -/
def bindsA (n : Na) : Option (List UInt8) := if n.p = xmlnsL then some n.l else if n.p = [] ∧ n.l = xmlnsL then some [] else none
def bindErr (e : Int) : Int := if e = 1 then 18 else e
structure Br where
  st : Ns.St
  e : Int
def bindAllA : List (Na × List UInt8) → Ns.St → Br
  | [], st => ⟨st, 0⟩
  | a :: r, st => match bindsA a.1 with
    | none => bindAllA r st
    | some p => if Ns.bindE p a.2 st = 0 then bindAllA r (Ns.bindS p a.2 st) else ⟨Ns.bindS p a.2 st, bindErr (Ns.bindE p a.2 st)⟩
/-- The space of a name. -/
def spaceA (st : Ns.St) (el : Bool) (n : Na) : Option (List UInt8) :=
  if el = true ∨ n.p ≠ [] then (match Ns.spaceS n.p st with | some s => some s | none => if n.p = [] then some [] else none) else some []
def fullA (st : Ns.St) (el : Bool) (n : Na) : Option (List UInt8) := match spaceA st el n with
  | none => none
  | some s => joinL s n.l
def tellN (s : As) (el : Bool) (n : Na) (v : List UInt8) : Ar := match fullA s.m.sc el n with
  | none => ⟨s, 18⟩
  | some f => tellA s ⟨if el = true then 10 else 11, bs f, bs v⟩
def tellAts : List (Na × List UInt8) → As → Ar
  | [], s => ⟨s, 0⟩
  | a :: r, s => if (bindsA a.1).isSome = true then tellAts r s else if (tellN s false a.1 a.2).e ≠ 0 then tellN s false a.1 a.2 else tellAts r (tellN s false a.1 a.2).b
def tellElemA (s : As) : Ar :=
  if (tellN s true s.m.el []).e ≠ 0 then tellN s true s.m.el []
  else if (tellAts s.m.ats (tellN s true s.m.el []).b).e ≠ 0 then tellAts s.m.ats (tellN s true s.m.el []).b
  else ⟨{ (tellAts s.m.ats (tellN s true s.m.el []).b).b with m := { s.m with ats := [] } }, 0⟩
def opened (s : Ag) : Ag := { s with op := s.op ++ [s.el], sc := [] :: s.sc }
def openA (s : As) : Ar :=
  if (bindAllA s.m.ats ([] :: s.m.sc)).e ≠ 0 then ⟨{ s with m := { opened s.m with sc := (bindAllA s.m.ats ([] :: s.m.sc)).st } }, (bindAllA s.m.ats ([] :: s.m.sc)).e⟩
  else tellElemA { s with m := { opened s.m with sc := (bindAllA s.m.ats ([] :: s.m.sc)).st } }
def setAt (s : As) (a : Int) : As := { s with m := { s.m with a := a } }
def endAttrsA (s : As) (b : UInt8) : Ar := if b.toNat = 47 then openA (setAt s 14) else if b.toNat = 62 then openA (setAt s 15) else ⟨s, 2⟩
def behindAttrA (s : As) (b : UInt8) : Ar := if blankB b = true then ⟨setAt s 9, 0⟩ else endAttrsA s b
def equalsA (s : Ag) (b : UInt8) : Mr := if b.toNat = 61 ∧ 20 ≤ s.ats.length then ⟨s, 7⟩ else mustA s b 61 12
def attrTextA (s : Ag) (b : UInt8) : Mr := if endedA s b 34 = true then ⟨{ s with a := 8, ats := s.ats ++ [(s.an, s.rt)], rt := [] }, 0⟩ else addR s b
def closedA (s : Ag) : Ag := { s with sc := Ns.closeS s.sc, op := s.op.dropLast, a := if s.op.dropLast = [] then 18 else 15 }
def endElemA (s : As) : Ar := tellA { s with m := closedA s.m } (bare 12)
def endEmptyA (s : As) (b : UInt8) : Ar := if b.toNat ≠ 62 then ⟨s, 2⟩ else endElemA s
def endTagA (s : As) (b : UInt8) : Ar := if b.toNat ≠ 62 then ⟨s, 2⟩ else if s.m.en ≠ s.m.op.getLastD ⟨[], []⟩ then ⟨s, 18⟩ else endElemA s
def contentA (s : As) (b : UInt8) : Ar :=
  if endedA s.m b 60 = false then s.mr (addR s.m b)
  else if s.m.rt = [] then ⟨setAt s 1, 0⟩
  else tellA { s with m := { s.m with a := 1, rt := [] } } ⟨4, bs s.m.rt, ⟨#[]⟩⟩

/-! The step. -/
def inElem (s : As) (b : UInt8) : Ar :=
  if goesA s.m b = true then s.mr (nameAdd s.m b)
  else if s.m.nt = [] then ⟨{ s with m := { nameGone s.m with el := nameOf s.m } }, 2⟩
  else behindAttrA { s with m := { nameGone s.m with el := nameOf s.m, a := 8 } } b
def inAttr (s : As) (b : UInt8) : Ar :=
  if goesA s.m b = true then s.mr (nameAdd s.m b)
  else if s.m.nt = [] then ⟨{ s with m := { nameGone s.m with an := nameOf s.m } }, 2⟩
  else s.mr (equalsA { nameGone s.m with an := nameOf s.m, a := 11 } b)
def atEnd (s : As) (b : UInt8) : Ar := if blankB b = true then ⟨s, 0⟩ else endTagA s b
def inEnd (s : As) (b : UInt8) : Ar :=
  if goesA s.m b = true then s.mr (nameAdd s.m b)
  else if s.m.nt = [] then ⟨{ s with m := { nameGone s.m with en := nameOf s.m } }, 2⟩
  else atEnd { s with m := { nameGone s.m with en := nameOf s.m, a := 17 } } b
def markL : List UInt8 := [33, 69, 78, 84, 73, 84, 89, 32]
def beginA (s : As) (b : UInt8) : Ar :=
  if s.m.op = [] ∧ b.toNat = 33 then s.mr (markedA { s.m with a := 2, rest := markL } b)
  else if s.m.op ≠ [] ∧ b.toNat = 47 then ⟨setAt s 16, 0⟩
  else inElem (setAt s 7) b
def beginAttrA (s : As) (b : UInt8) : Ar := if b.toNat = 47 ∨ b.toNat = 62 then endAttrsA s b else inAttr (setAt s 10) b
def skipsA (a : Int) : Bool := decide (a = 0 ∨ a = 6 ∨ a = 9 ∨ a = 17 ∨ a = 18)
def stepA (s : As) (b : UInt8) : Ar :=
  if blankB b = true ∧ skipsA s.m.a = true then ⟨s, 0⟩
  else if s.m.a = 0 then s.mr (mustA s.m b 60 1)
  else if s.m.a = 1 then beginA s b
  else if s.m.a = 2 then s.mr (markedA s.m b)
  else if s.m.a = 3 then s.mr (entNameA s.m b)
  else if s.m.a = 4 then s.mr (mustA s.m b 34 5)
  else if s.m.a = 5 then s.mr (entTextA s.m b)
  else if s.m.a = 6 then s.mr (defineA s.m b)
  else if s.m.a = 7 then inElem s b
  else if s.m.a = 8 then behindAttrA s b
  else if s.m.a = 9 then beginAttrA s b
  else if s.m.a = 10 then inAttr s b
  else if s.m.a = 11 then s.mr (equalsA s.m b)
  else if s.m.a = 12 then s.mr (mustA s.m b 34 13)
  else if s.m.a = 13 then s.mr (attrTextA s.m b)
  else if s.m.a = 14 then endEmptyA s b
  else if s.m.a = 15 then contentA s b
  else if s.m.a = 16 then inEnd s b
  else if s.m.a = 17 then endTagA s b
  else ⟨s, 2⟩
def endAgE (s : As) : Int := if s.m.a ≠ 18 then 2 else 0
end Go.Proofs.YtjepnddndpmnnaaGreat
namespace Go.Proofs.YtjepnddndpmnnaaGreat
open Go.RowKit

theorem ret_bool {a b : Bool} (h : a = b) : Ending.returned (.bool a) = .returned (.bool b) := by rw [h]
theorem ret_int {k : IntKind} {a b : Int} (h : a = b) : Ending.returned (.int k a) = .returned (.int k b) := by rw [h]

theorem may_any (r : Int) (w : World) :
    Calls Tryz.prog 65 #[.int .i64 r] w fun e w' => e = .returned (.bool (mayB r)) ∧ w = w' := by
  go_enter Tryz.func65, Tryz.ntmps65
  go_wp2
  all_goals go_ret
  all_goals refine ⟨ret_bool ?_, rfl⟩
  all_goals simp only [mayB]
  all_goals (rw [Bool.eq_iff_iff]; simp; try omega)


theorem long_any (r : Int) (w : World) :
    Calls Tryz.prog 66 #[.int .i64 r] w fun e w' => e = .returned (.int .i64 (longI r)) ∧ w = w' := by
  go_enter Tryz.func66, Tryz.ntmps66
  go_wp2
  all_goals go_ret
  all_goals refine ⟨ret_int ?_, rfl⟩
  all_goals simp only [longI]
  all_goals repeat (first | rw [if_pos (by omega)] | rw [if_neg (by omega)])

theorem i64_and63 (r : Int) (h0 : 0 ≤ r) (h1 : r < 9223372036854775808) : bits .and .i64 r 63 = r % 64 :=
  bits_mask .i64 63 (by decide) (fun n a b => by rw [IntKind.wrap_i64]; omega) 6 (by decide) r h0 h1


theorem Tryz.info5 : (Tryz.prog.info? 5).map (fun i => (i.zero, i.size, i.bytes)) = some (some (.int .u8 0), 1, 1) := by kernel_rfl
theorem Tryz.info3 : (Tryz.prog.info? 3).map (fun i => (i.zero, i.size, i.bytes)) = some (some (.int .i64 0), 1, 8) := by kernel_rfl
end Go.Proofs.YtjepnddndpmnnaaGreat
namespace Go
/-- As Q; by a goto to a label of c: what stands behind the label, with one jump fewer left. -/
def Exit.fwd (P : Program) (c : Code) (Q : Exit → Act → World → Prop) : Nat → Exit → Act → World → Prop
  | 0, .goto _, _, _ => False
  | n + 1, .goto l, a, w => ∃ rest, findLabel c l = some rest ∧ rest.wp P (Exit.fwd P c Q n) a w
  | _, e, a, w => Q e a w

section
variable {P : Program} {a : Act} {w : World} {Q : Exit → Act → World → Prop} {c : Code}
theorem Exit.fwd_normal (n : Nat) : Exit.fwd P c Q n .normal a w = Q .normal a w := by cases n <;> rfl
theorem Exit.fwd_exit (n : Nat) (id : Nat) : Exit.fwd P c Q n (.exit id) a w = Q (.exit id) a w := by cases n <;> rfl
theorem Exit.fwd_ret (n : Nat) : Exit.fwd P c Q n .ret a w = Q .ret a w := by cases n <;> rfl
theorem Exit.fwd_panic (n : Nat) (ch : List PanicEntry) : Exit.fwd P c Q n (.panic ch) a w = Q (.panic ch) a w := by cases n <;> rfl
theorem Exit.fwd_goto (n l : Nat) (rest : Code) (h : findLabel c l = some rest) (k : rest.wp P (Exit.fwd P c Q n) a w) : Exit.fwd P c Q (n + 1) (.goto l) a w := ⟨rest, h, k⟩

theorem wp_scope_fwd (n : Nat) (first : c.wp P (Exit.fwd P c Q n) a w) : (Code.scope c).wp P Q a w := by
  intro b k cs
  have key : ∀ n (body : Code) a w, body.wp P (Exit.fwd P c Q n) a w → ∃ e a' w', Q e a' w' ∧ Arrives P (lone (b.at a (.code body :: .inScope c :: k)) cs w) b k cs e a' w' := by
    intro n
    induction n with
    | zero =>
      intro body a w h
      obtain ⟨e, a₁, w₁, hq, harr⟩ := h b (.inScope c :: k) cs
      cases e with
      | normal => exact ⟨.normal, a₁, w₁, hq, Steps.trans harr (.one step_inScope)⟩
      | exit id => exact ⟨.exit id, a₁, w₁, hq, fun k' hk => harr k' (by simp [exitTo, hk])⟩
      | goto l' => exact hq.elim
      | ret => exact ⟨_, a₁, w₁, hq, harr⟩
      | panic ch => exact ⟨_, a₁, w₁, hq, harr⟩
      | outgrown => exact ⟨_, a₁, w₁, hq, harr⟩
    | succ n ih =>
      intro body a w h
      obtain ⟨e, a₁, w₁, hq, harr⟩ := h b (.inScope c :: k) cs
      cases e with
      | normal => exact ⟨.normal, a₁, w₁, hq, Steps.trans harr (.one step_inScope)⟩
      | exit id => exact ⟨.exit id, a₁, w₁, hq, fun k' hk => harr k' (by simp [exitTo, hk])⟩
      | goto l' =>
        obtain ⟨rest, hf, hr⟩ := hq
        have hg : gotoIn l' (.inScope c :: k) = some (.code rest :: .inScope c :: k) := by simp [gotoIn, hf]
        obtain ⟨e₂, a₂, w₂, hq₂, harr₂⟩ := ih rest a₁ w₁ hr
        exact ⟨e₂, a₂, w₂, hq₂, .of_steps (harr _ hg) harr₂⟩
      | ret => exact ⟨_, a₁, w₁, hq, harr⟩
      | panic ch => exact ⟨_, a₁, w₁, hq, harr⟩
      | outgrown => exact ⟨_, a₁, w₁, hq, harr⟩
  obtain ⟨e, a₁, w₁, hq, harr⟩ := key n c a w first
  cases e with
  | normal => exact ⟨.normal, a₁, w₁, hq, .head step_scope harr⟩
  | exit id => exact ⟨.exit id, a₁, w₁, hq, fun k' hk => .head step_scope (harr k' hk)⟩
  | goto l' => exact ⟨.goto l', a₁, w₁, hq, fun k' hk => .head step_scope (harr k' hk)⟩
  | ret => exact ⟨_, a₁, w₁, hq, .of_steps (.one step_scope) harr⟩
  | panic ch => exact ⟨_, a₁, w₁, hq, .of_steps (.one step_scope) harr⟩
  | outgrown => exact ⟨_, a₁, w₁, hq, .of_steps (.one step_scope) harr⟩
end
end Go
namespace Go.Proofs.YtjepnddndpmnnaaGreat
open Go.RowKit

/-- A Scan at block g: what is left, and the bounds of the next byte. -/
def ScanAt (w : World) (g : Nat) (l lo hi : Int) : Prop := Blk w g 142 #[.int .i64 l, .int .u8 lo, .int .u8 hi]

/-- What a step leaves. -/
def Stepped (w : World) (g : Nat) (l lo hi b : Int) (e : Ending) (w' : World) : Prop :=
  e = .returned (.bool (stOk l lo hi b)) ∧ w.grownBy w' (some g) ∧ (if stOk l lo hi b = true then ScanAt w' g (stL l b) (stLo l b) (stHi l b) else ScanAt w' g l lo hi)

theorem new_any (w : World) : Calls Tryz.prog 47 #[] w fun e w' => e = .returned (.pointer (some ⟨w.heap.size, 0, none⟩)) ∧ w' = w.alloc (.cells #[.int .i64 0, .int .u8 128, .int .u8 191] 142) := by
  go_enter Tryz.func47, Tryz.ntmps47
  go_wp2
  go_ret
  exact ⟨rfl, rfl⟩

theorem whole_any (w : World) (g : Nat) (l lo hi : Int) (hs : ScanAt w g l lo hi) :
    Calls Tryz.prog 51 #[.pointer (some ⟨g, 0, none⟩)] w fun e w' => e = .returned (.bool (decide (l = 0))) ∧ w = w' := by
  have hc : w.cell? ⟨g, 0, none⟩ = some (.int .i64 l) := hs.cell 0
  go_enter Tryz.func51, Tryz.ntmps51
  go_wp2
  go_ret
  refine ⟨ret_bool ?_, rfl⟩
  rw [Bool.eq_iff_iff]; simp

theorem stepped_no {w : World} {g : Nat} {l lo hi b : Int} {o : Obj} (hs : ScanAt w g l lo hi) (hk : stOk l lo hi b = false) : Stepped w g l lo hi b (.returned (.bool false)) (w.alloc o) := by
  refine ⟨by rw [hk], only_alloc (World.grownBy.refl _ _) _, ?_⟩
  rw [hk, if_neg (by decide)]
  exact Blk.alloc hs _
theorem stepped_yes {w : World} {g : Nat} {l lo hi b : Int} {l' lo' hi' : Int} {o : Obj} (hs : ScanAt w g l lo hi) (hk : stOk l lo hi b = true) (h1 : l' = stL l b) (h2 : lo' = stLo l b) (h3 : hi' = stHi l b) :
    Stepped w g l lo hi b (.returned (.bool true)) ((((w.setCell ⟨g, 0, none⟩ (.int .i64 l')).setCell ⟨g, 1, none⟩ (.int .u8 lo')).setCell ⟨g, 2, none⟩ (.int .u8 hi')).alloc o) := by
  subst h1 h2 h3
  have g1 := only_setCell (p := ⟨g, 0, none⟩) (World.grownBy.refl w (some g)) (.inl rfl) (.int .i64 (stL l b))
  have g2 := only_setCell (p := ⟨g, 1, none⟩) g1 (.inl rfl) (.int .u8 (stLo l b))
  have g3 := only_setCell (p := ⟨g, 2, none⟩) g2 (.inl rfl) (.int .u8 (stHi l b))
  have b1 := Blk.set_ hs 0 (.int .i64 (stL l b))
  have b2 := Blk.set_ b1 1 (.int .u8 (stLo l b))
  have b3 := Blk.set_ b2 2 (.int .u8 (stHi l b))
  refine ⟨by rw [hk], only_alloc g3 _, ?_⟩
  rw [hk, if_pos rfl]
  exact Blk.alloc b3 o
set_option maxHeartbeats 400000 in
theorem step_tail (w : World) (g : Nat) (l lo hi b : Int) (hs : ScanAt w g l lo hi) (hl : 0 < l) (hl3 : l ≤ 3) :
    Calls Tryz.prog 49 #[.pointer (some ⟨g, 0, none⟩), .int .u8 b] w (Stepped w g l lo hi b) := by
  have c0 : w.cell? ⟨g, 0, none⟩ = some (.int .i64 l) := hs.cell 0
  have c1 : w.cell? ⟨g, 1, none⟩ = some (.int .u8 lo) := hs.cell 1
  have c2 : w.cell? ⟨g, 2, none⟩ = some (.int .u8 hi) := hs.cell 2
  have f0 := hs.frozen 0
  have f1 := hs.frozen 1
  have f2 := hs.frozen 2
  have hlt := hs.lt
  go_enter Tryz.func49, Tryz.ntmps49
  go_wp2
  refine wp_scope_fwd 2 ?_
  generalize hQ : Exit.fwd _ _ _ 2 = Q2
  go_wp2
  go_step3
  show Q2 _ _ _
  rw [← hQ]
  refine Exit.fwd_goto 1 _ _ rfl ?_
  generalize hQ1 : Exit.fwd _ _ _ 1 = Q1
  go_wp2
  · rw [← hQ1, Exit.fwd_ret]
    go_ret
    have hk : stOk l lo hi b = false := by unfold stOk; rw [if_pos hl]; simp; omega
    exact stepped_no hs hk
  · go_step3
    show Q1 _ _ _
    rw [← hQ1]
    refine Exit.fwd_goto 0 _ _ rfl ?_
    generalize hQ0 : Exit.fwd _ _ _ 0 = Q0
    go_wp2
    rw [← hQ0, Exit.fwd_ret]
    go_ret
    have hk : stOk l lo hi b = true := by unfold stOk; rw [if_pos hl]; simp; omega
    exact stepped_yes hs hk (by unfold stL; rw [if_pos hl]) (by unfold stLo; rw [if_pos hl]) (by unfold stHi; rw [if_pos hl])
  · rw [← hQ1, Exit.fwd_ret]
    go_ret
    have hk : stOk l lo hi b = false := by unfold stOk; rw [if_pos hl]; simp; omega
    exact stepped_no hs hk

set_option maxHeartbeats 1000000 in
theorem step_lead (w : World) (g : Nat) (lo hi b : Int) (hs : ScanAt w g 0 lo hi) (hb0 : 0 ≤ b) (hb1 : b ≤ 255) :
    Calls Tryz.prog 49 #[.pointer (some ⟨g, 0, none⟩), .int .u8 b] w (Stepped w g 0 lo hi b) := by
  have c0 : w.cell? ⟨g, 0, none⟩ = some (.int .i64 0) := hs.cell 0
  have c1 : w.cell? ⟨g, 1, none⟩ = some (.int .u8 lo) := hs.cell 1
  have c2 : w.cell? ⟨g, 2, none⟩ = some (.int .u8 hi) := hs.cell 2
  have f0 := hs.frozen 0
  have f1 := hs.frozen 1
  have f2 := hs.frozen 2
  have hlt := hs.lt
  go_enter Tryz.func49, Tryz.ntmps49
  go_wp2
  refine wp_scope_fwd 2 ?_
  generalize hQ : Exit.fwd _ _ _ 2 = Q2
  go_wp2
  all_goals first
    | (rw [← hQ, Exit.fwd_ret]; go_ret; exact stepped_no hs (by simp [stOk]; omega))
    | skip
  all_goals
    go_step3
    show Q2 _ _ _
    rw [← hQ]
    refine Exit.fwd_goto 1 _ _ rfl ?_
    generalize hQ1 : Exit.fwd _ _ _ 1 = Q1
  all_goals go_wp2
  all_goals try (go_step3; go_wp2)
  all_goals try (go_step3; go_wp2)
  all_goals try (go_step3; go_wp2)
  all_goals (rw [← hQ1, Exit.fwd_ret]; go_ret)
  all_goals refine stepped_yes hs (by simp [stOk]; omega) ?_ ?_ ?_
  all_goals simp only [stL, stLo, stHi]
  all_goals clear hQ1 c0 c1 c2 f0 f1 f2 hs
  all_goals try simp only [beq_iff_eq, beq_eq_false_iff_ne] at *
  all_goals rw [if_neg (by omega)]
  all_goals repeat (first | rw [if_pos (by omega)] | rw [if_neg (by omega)])

theorem step_any (w : World) (g : Nat) (l lo hi b : Int) (hs : ScanAt w g l lo hi) (hl0 : 0 ≤ l) (hl3 : l ≤ 3) (hb0 : 0 ≤ b) (hb1 : b ≤ 255) :
    Calls Tryz.prog 49 #[.pointer (some ⟨g, 0, none⟩), .int .u8 b] w (Stepped w g l lo hi b) := by
  rcases Int.lt_or_eq_of_le hl0 with h | h
  · exact step_tail w g l lo hi b hs h hl3
  · subst h
    exact step_lead w g lo hi b hs hb0 hb1
end Go.Proofs.YtjepnddndpmnnaaGreat
