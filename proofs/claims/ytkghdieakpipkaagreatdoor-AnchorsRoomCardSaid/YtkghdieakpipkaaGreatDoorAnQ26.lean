/-
  Anchors as plain functions. No program is read here.
  A list of events that a call has made: appended to, read; it and a Check keep clear of each other.
-/
import Derived.Test.YtkghdieakpipkaaGreatDoorAnQ05
import Derived.Test.YtkghdieakpipkaaGreatDoorAnQ02
import Derived.Test.YtkghdieakpipkaaGreatDoorAnQ25
namespace Go.Proofs.YtkghdieakpipkaaGreatDoor
set_option maxRecDepth 100000
set_option linter.unusedSimpArgs false
set_option linter.unusedVariables false

/-- A name, and what is kept under it. -/
abbrev AEnt := List UInt8 × List Ev
/-- All that is kept, in the order in which it was opened; how many events were told. -/
structure Am where
  m : List AEnt
  told : Nat
def evSz (x : Ev) : Nat := x.t.size + x.v.size + 1
def evsSz (l : List Ev) : Nat := (l.map evSz).sum
def entSz (r : AEnt) : Nat := r.1.length + evsSz r.2
def sizeA (m : List AEnt) : Nat := (m.map entSz).sum
def knownB (l : List Ev) : Bool := doneB (runS [topP] l)
def namesA (m : List AEnt) : List (List UInt8) := m.map (·.1)
def openE (s : Am) (n : List UInt8) : Int :=
  if localL n = false then 1 else if n ∈ namesA s.m then 6 else if 200 < sizeA s.m + n.length then 12 else 0
def openM (s : Am) (n : List UInt8) : Am := if openE s n = 0 then { s with m := s.m ++ [(n, [])] } else s
def pend (m : List AEnt) : List AEnt := m.filter fun r => !knownB r.2
def takesA (m : List AEnt) (x : Ev) : Bool := (pend m).all fun r => decide (stepE (runS [topP] r.2) x = 0)
def stepAE (s : Am) (x : Ev) : Int := if takesA s.m x = false then 19 else if 200 < sizeA s.m + (pend s.m).length * evSz x then 12 else 0
def pushA (x : Ev) (r : AEnt) : AEnt := if knownB r.2 = true then r else (r.1, r.2 ++ [x])
def stepAM (s : Am) (x : Ev) : Am := if stepAE s x = 0 then { s with m := s.m.map (pushA x) } else s
def lookA (n : List UInt8) : List AEnt → Option (List Ev)
  | [] => none
  | r :: m => if r.1 = n then some r.2 else lookA n m
def getE (s : Am) (n : List UInt8) : Int :=
  match lookA n s.m with
  | none => 11
  | some l => if knownB l = false then 11 else if 40 < s.told + l.length then 13 else 0
def getL (s : Am) (n : List UInt8) : List Ev := if getE s n = 0 then (lookA n s.m).getD [] else []
def getM (s : Am) (n : List UInt8) : Am := if getE s n = 0 then { s with told := s.told + (getL s n).length } else s

/-- What always holds. -/
structure AInv (s : Am) : Prop where
  nd : (namesA s.m).Nodup
  ok : ∀ r ∈ s.m, allOk [topP] r.2 ∧ localL r.1 = true
  sz : sizeA s.m ≤ 200
  told : s.told ≤ 40
theorem sizeA_append (a b : List AEnt) : sizeA (a ++ b) = sizeA a + sizeA b := by simp [sizeA]
theorem evsSz_append (a b : List Ev) : evsSz (a ++ b) = evsSz a + evsSz b := by simp [evsSz]
theorem sizeA_cons (r : AEnt) (m : List AEnt) : sizeA (r :: m) = entSz r + sizeA m := by simp [sizeA]
theorem evsSz_len (l : List Ev) : l.length ≤ evsSz l := by
  induction l with
  | nil => simp
  | cons x l ih =>
    have : evsSz (x :: l) = evSz x + evsSz l := by simp [evsSz]
    rw [this, List.length_cons]
    unfold evSz
    omega
theorem entSz_le {m : List AEnt} {r : AEnt} (h : r ∈ m) : entSz r ≤ sizeA m := by
  induction m with
  | nil => cases h
  | cons y m ih =>
    rw [sizeA_cons]
    rcases List.mem_cons.1 h with rfl | h
    · omega
    · have := ih h; omega
theorem evSz_le {l : List Ev} {x : Ev} (h : x ∈ l) : evSz x ≤ evsSz l := by
  induction l with
  | nil => cases h
  | cons y l ih =>
    have e : evsSz (y :: l) = evSz y + evsSz l := by simp [evsSz]
    rw [e]
    rcases List.mem_cons.1 h with rfl | h
    · omega
    · have := ih h; omega
theorem sizeA_len {m : List AEnt} (h : ∀ r ∈ m, localL r.1 = true) : m.length ≤ sizeA m := by
  induction m with
  | nil => simp
  | cons r m ih =>
    rw [sizeA_cons, List.length_cons]
    have h1 := ih fun r hr => h r (List.mem_cons_of_mem _ hr)
    have h2 := h r List.mem_cons_self
    have : 1 ≤ r.1.length := by
      cases hr : r.1 with
      | nil => rw [hr] at h2; cases h2
      | cons c t => simp
    unfold entSz
    omega
theorem sizeA_push (x : Ev) (m : List AEnt) : sizeA (m.map (pushA x)) = sizeA m + (pend m).length * evSz x := by
  induction m with
  | nil => simp [sizeA, pend]
  | cons r m ih =>
    rw [List.map_cons, sizeA_cons, sizeA_cons, ih]
    unfold pend pushA
    rw [List.filter_cons]
    cases hk : knownB r.2 with
    | true => simp; omega
    | false =>
      have e : evsSz (r.2 ++ [x]) = evsSz r.2 + evSz x := by rw [evsSz_append]; simp [evsSz]
      simp only [Bool.not_false, if_true, if_false, List.length_cons, entSz, Bool.false_eq_true, e]
      rw [Nat.add_mul, Nat.one_mul]
      omega
theorem names_push (x : Ev) (m : List AEnt) : namesA (m.map (pushA x)) = namesA m := by
  unfold namesA
  rw [List.map_map]
  congr 1
  funext r
  show (pushA x r).1 = r.1
  unfold pushA
  split <;> rfl
theorem ainv0 : AInv ⟨[], 0⟩ := ⟨List.nodup_nil, fun _ h => absurd h List.not_mem_nil, by simp [sizeA], Nat.zero_le _⟩
theorem ainv_open {s : Am} (h : AInv s) (n : List UInt8) : AInv (openM s n) := by
  unfold openM
  split
  · rename_i h0
    unfold openE at h0
    split at h0
    · cases h0
    · rename_i h1
      split at h0
      · cases h0
      · rename_i h2
        split at h0
        · cases h0
        · rename_i h3
          refine ⟨?_, ?_, ?_, h.told⟩
          · show (namesA (s.m ++ [(n, [])])).Nodup
            unfold namesA
            rw [List.map_append, List.nodup_append]
            refine ⟨h.nd, by simp, ?_⟩
            intro a ha b hb
            simp at hb
            subst hb
            rintro rfl
            exact h2 ha
          · intro r hr
            rcases List.mem_append.1 hr with hr | hr
            · exact h.ok r hr
            · rw [List.mem_singleton] at hr
              subst hr
              exact ⟨trivial, by simpa using h1⟩
          · show sizeA (s.m ++ [(n, [])]) ≤ 200
            rw [sizeA_append, sizeA_cons]
            simp [entSz, evsSz, sizeA] at h3 ⊢
            omega
  · exact h
theorem takesA_of {m : List AEnt} {x : Ev} (h : takesA m x = true) {r : AEnt} (hr : r ∈ m) (hk : knownB r.2 = false) : stepE (runS [topP] r.2) x = 0 := by
  unfold takesA at h
  rw [List.all_eq_true] at h
  have := h r (by unfold pend; rw [List.mem_filter]; exact ⟨hr, by rw [hk]; rfl⟩)
  simpa using this
theorem stepAE_ok {s : Am} {x : Ev} (h : stepAE s x = 0) : takesA s.m x = true ∧ sizeA s.m + (pend s.m).length * evSz x ≤ 200 := by
  unfold stepAE at h
  split at h
  · cases h
  · rename_i h1
    split at h
    · cases h
    · exact ⟨by simpa using h1, by omega⟩
theorem ainv_step {s : Am} (h : AInv s) (x : Ev) : AInv (stepAM s x) := by
  unfold stepAM
  split
  · rename_i h0
    obtain ⟨h1, h2⟩ := stepAE_ok h0
    refine ⟨by show (namesA (s.m.map (pushA x))).Nodup; rw [names_push]; exact h.nd, ?_, by show sizeA (s.m.map (pushA x)) ≤ 200; rw [sizeA_push]; exact h2, h.told⟩
    intro r hr
    obtain ⟨q, hq, rfl⟩ := List.mem_map.1 hr
    have ho := h.ok q hq
    unfold pushA
    cases hk : knownB q.2 with
    | true => exact ho
    | false => exact ⟨(allOk_snoc _ _ _).2 ⟨ho.1, takesA_of h1 hq hk⟩, ho.2⟩
  · exact h
theorem ainv_get {s : Am} (h : AInv s) (n : List UInt8) : AInv (getM s n) := by
  unfold getM
  split
  · rename_i h0
    refine ⟨h.nd, h.ok, h.sz, ?_⟩
    show s.told + (getL s n).length ≤ 40
    unfold getL
    rw [if_pos h0]
    unfold getE at h0
    cases hl : lookA n s.m with
    | none => rw [hl] at h0; cases h0
    | some l =>
      rw [hl] at h0
      simp only at h0
      split at h0
      · cases h0
      · split at h0
        · cases h0
        · show s.told + l.length ≤ 40; omega
  · exact h
end Go.Proofs.YtkghdieakpipkaaGreatDoor
namespace Go.Proofs.YtkghdieakpipkaaGreatDoor
open Go.RowKit Go.Maps
set_option maxRecDepth 100000

def evc (x : Ev) : List Value := [.int .i64 x.k, .string x.t, .string x.v]
def evcs (l : List Ev) : List Value := l.flatMap evc
theorem evcs_len (l : List Ev) : (evcs l).length = l.length * 3 := by
  induction l with
  | nil => rfl
  | cons x l ih => simp only [evcs, List.flatMap_cons, List.length_append, List.length_cons] at ih ⊢; rw [ih]; simp [evc]; omega
theorem evcs_get : ∀ (l : List Ev) (k : Nat) (h : k < l.length) (j : Nat) (_ : j < 3), (evcs l)[k * 3 + j]? = (evc l[k])[j]?
  | x :: l, 0, _, j, hj => by
    simp only [evcs, List.flatMap_cons]
    rw [List.getElem?_append_left (by simp [evc]; omega)]
    simp
  | x :: l, k + 1, h, j, hj => by
    have ih := evcs_get l k (by simpa using h) j hj
    simp only [evcs, List.flatMap_cons] at ih ⊢
    rw [List.getElem?_append_right (by simp [evc]; omega), show (k + 1) * 3 + j - (evc x).length = k * 3 + j by simp [evc]; omega, ih]
    simp
theorem evcs_snoc (l : List Ev) (x : Ev) : evcs (l ++ [x]) = evcs l ++ evc x := by simp [evcs]
theorem Tryz.infoEv : (Tryz.prog.info? 31).map (fun i => (i.zero, i.size, i.bytes)) = some (some (.agg #[.int .i64 0, .string ⟨#[]⟩, .string ⟨#[]⟩]), 3, 40) := by kernel_rfl

def ERow (w : World) (base : Nat) (v : Value) (l : List Ev) : Prop := w.ownsRow base 31 3 v l.length (evcs l)
def eObj : Obj → Prop
  | .cells _ t _ => t = 31
  | _ => False
theorem ERow.nil (w : World) (base : Nat) : ERow w base (.slice none 0 0) [] := World.ownsRow_nil w base _ 3
theorem ERow.read {w : World} {base : Nat} {v : Value} {l : List Ev} (h : ERow w base v l) : ERead w v l := by
  have hr := h
  unfold ERow at hr
  rcases hr.2 with ⟨rfl, h0⟩ | ⟨r, c, cur, rfl, hg, hh, hnc, hm, hs, ht⟩
  · exact ⟨none, 0, by rw [h0], by omega, Nat.zero_le _, fun hp => by omega⟩
  · refine ⟨some ⟨r, 0, none⟩, c, rfl, hnc, hm, fun _ => ⟨r, 0, rfl, fun j hj => ?_⟩⟩
    have hat : ∀ i, i < 3 → w.cell? ⟨r, j * 3 + i, none⟩ = (evc l[j])[i]? := by
      intro i hi
      rw [Blk.cell hh, ← evcs_get l j hj i hi, ← ht, List.getElem?_take_of_lt (by omega), Array.getElem?_toList]
    rw [Nat.zero_add]
    have h0 := hat 0 (by omega)
    have h1 := hat 1 (by omega)
    have h2 := hat 2 (by omega)
    exact ⟨h0, h1, h2⟩
theorem ERow.below {w w' : World} {base : Nat} {v : Value} {l : List Ev} (h : ERow w base v l) (hb : Below w.heap.size w w') : ERow w' base v l :=
  row_tch (base := base) (p := fun _ => False) h (Tch.of_below hb) (fun _ _ h => h)
theorem ERow.of_c {w w' : World} {base : Nat} {v : Value} {l : List Ev} (h : ERow w base v l) (ht : Tch base cObj w w') : ERow w' base v l :=
  row_tch h ht (fun _ _ => by simp only [cObj]; decide)
theorem CAt.of_e {w w' : World} {base g : Nat} {st : List Pt} (h : CAt w base g st) (ht : Tch base eObj w w') : CAt w' base g st :=
  h.tch ht (fun cs t fr h hc => by simp only [eObj] at hc; rcases h with rfl | rfl <;> exact absurd hc (by decide)) (fun _ _ hc => hc)
theorem ERow.shape {w : World} {base : Nat} {v : Value} {l : List Ev} (h : ERow w base v l) : ∃ A c, v = .slice A l.length c := by
  rcases h.2 with ⟨rfl, h0⟩ | ⟨g, cap, cur, rfl, _⟩
  · exact ⟨_, _, by rw [h0]⟩
  · exact ⟨_, _, rfl⟩
theorem ERow.alloc {w : World} {base : Nat} {v : Value} {l : List Ev} (h : ERow w base v l) (o : Obj) : ERow (w.alloc o) base v l := World.ownsRow.alloc h o
theorem erow_push {w w' : World} {base : Nat} {v v' : Value} {l : List Ev} {x : Ev} {o : Obj} (h : ERow w base v l) (hg : (w.alloc o).grownBy w' v.ownBlock)
    (hr : w'.ownsRow base 31 3 v' (l.length + 1) (evcs l ++ [.int .i64 x.k, .string x.t, .string x.v])) : ERow w' base v' (l ++ [x]) ∧ Tch base eObj w w' := by
  refine ⟨?_, ((Tch.refl base eObj w).alloc o).trans (Tch.of_row (h.alloc o) hg (Nat.le_refl _) (fun _ => rfl))⟩
  unfold ERow
  rw [evcs_snoc, List.length_append]
  exact hr

end Go.Proofs.YtkghdieakpipkaaGreatDoor
