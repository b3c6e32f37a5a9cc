/-
  Anchors as plain functions. No program is read here.
  No foreign blocks: for texts whose Checks live inside one call.
  Rows of events: see EvO.
  slices.Index and slices.Contains at strings.
  An Anchors as it lies: its block, its map of pointers, the names that are open, the anchors with their events; what its calls may turn.
-/
import Derived.Test.YtalkjgijmceifaaGreatDoorOwA03
import Derived.Test.YtalkjgijmceifaaGreatDoorOwA01
import Derived.Test.YtalkjgijmceifaaGreatDoorOwA08
import Derived.Test.YtalkjgijmceifaaGreatDoorOwA10
import Derived.Test.YtalkjgijmceifaaGreatDoorOwA04
import Derived.Test.YtalkjgijmceifaaGreatDoorOwA07
import Derived.BigQuiet
import Derived.Maps.OwnIn
namespace Go.Proofs.YtalkjgijmceifaaGreatDoor
set_option maxRecDepth 100000
set_option linter.unusedSimpArgs false
set_option linter.unusedVariables false
set_option linter.unusedSectionVars false
variable [Tab]

/-- A name, and what is kept under it. -/
abbrev AEnt := List UInt8 × List Ev
/-- All that is kept, in the order in which it was opened; how many events were told. -/
structure Am where
  m : List AEnt
  told : Nat
def evSz (x : Ev) : Nat := x.t.size + x.v.size + 1
def evsSz (l : List Ev) : Nat := (l.map evSz).sum
def entSz (r : AEnt) : Nat := r.1.length + evsSz r.2
def sizeA (m : List AEnt) : Nat := (m.map entSz).sum
def knownB (l : List Ev) : Bool := doneB (runS [topP] l)
def namesA (m : List AEnt) : List (List UInt8) := m.map (·.1)
def openE (s : Am) (n : List UInt8) : Int :=
  if localL n = false then 1 else if n ∈ namesA s.m then 6 else if 200 < sizeA s.m + n.length then 12 else 0
def openM (s : Am) (n : List UInt8) : Am := if openE s n = 0 then { s with m := s.m ++ [(n, [])] } else s
def pend (m : List AEnt) : List AEnt := m.filter fun r => !knownB r.2
def takesA (m : List AEnt) (x : Ev) : Bool := (pend m).all fun r => decide (stepE (runS [topP] r.2) x = 0)
def stepAE (s : Am) (x : Ev) : Int := if takesA s.m x = false then 19 else if 200 < sizeA s.m + (pend s.m).length * evSz x then 12 else 0
def pushA (x : Ev) (r : AEnt) : AEnt := if knownB r.2 = true then r else (r.1, r.2 ++ [x])
def stepAM (s : Am) (x : Ev) : Am := if stepAE s x = 0 then { s with m := s.m.map (pushA x) } else s
def lookA (n : List UInt8) : List AEnt → Option (List Ev)
  | [] => none
  | r :: m => if r.1 = n then some r.2 else lookA n m
def getE (s : Am) (n : List UInt8) : Int :=
  match lookA n s.m with
  | none => 11
  | some l => if knownB l = false then 11 else if 40 < s.told + l.length then 13 else 0
def getL (s : Am) (n : List UInt8) : List Ev := if getE s n = 0 then (lookA n s.m).getD [] else []
def getM (s : Am) (n : List UInt8) : Am := if getE s n = 0 then { s with told := s.told + (getL s n).length } else s

/-- What always holds. -/
structure AInv (s : Am) : Prop where
  nd : (namesA s.m).Nodup
  ok : ∀ r ∈ s.m, allOk [topP] r.2 ∧ localL r.1 = true
  sz : sizeA s.m ≤ 200
  told : s.told ≤ 40
theorem sizeA_append (a b : List AEnt) : sizeA (a ++ b) = sizeA a + sizeA b := by simp [sizeA]
theorem evsSz_append (a b : List Ev) : evsSz (a ++ b) = evsSz a + evsSz b := by simp [evsSz]
theorem sizeA_cons (r : AEnt) (m : List AEnt) : sizeA (r :: m) = entSz r + sizeA m := by simp [sizeA]
theorem evsSz_len (l : List Ev) : l.length ≤ evsSz l := by
  induction l with
  | nil => simp
  | cons x l ih =>
    have : evsSz (x :: l) = evSz x + evsSz l := by simp [evsSz]
    rw [this, List.length_cons]
    unfold evSz
    omega
theorem entSz_le {m : List AEnt} {r : AEnt} (h : r ∈ m) : entSz r ≤ sizeA m := by
  induction m with
  | nil => cases h
  | cons y m ih =>
    rw [sizeA_cons]
    rcases List.mem_cons.1 h with rfl | h
    · omega
    · have := ih h; omega
theorem evSz_le {l : List Ev} {x : Ev} (h : x ∈ l) : evSz x ≤ evsSz l := by
  induction l with
  | nil => cases h
  | cons y l ih =>
    have e : evsSz (y :: l) = evSz y + evsSz l := by simp [evsSz]
    rw [e]
    rcases List.mem_cons.1 h with rfl | h
    · omega
    · have := ih h; omega
theorem sizeA_len {m : List AEnt} (h : ∀ r ∈ m, localL r.1 = true) : m.length ≤ sizeA m := by
  induction m with
  | nil => simp
  | cons r m ih =>
    rw [sizeA_cons, List.length_cons]
    have h1 := ih fun r hr => h r (List.mem_cons_of_mem _ hr)
    have h2 := h r List.mem_cons_self
    have : 1 ≤ r.1.length := by
      cases hr : r.1 with
      | nil => rw [hr] at h2; cases h2
      | cons c t => simp
    unfold entSz
    omega
theorem sizeA_push (x : Ev) (m : List AEnt) : sizeA (m.map (pushA x)) = sizeA m + (pend m).length * evSz x := by
  induction m with
  | nil => simp [sizeA, pend]
  | cons r m ih =>
    rw [List.map_cons, sizeA_cons, sizeA_cons, ih]
    unfold pend pushA
    rw [List.filter_cons]
    cases hk : knownB r.2 with
    | true => simp; omega
    | false =>
      have e : evsSz (r.2 ++ [x]) = evsSz r.2 + evSz x := by rw [evsSz_append]; simp [evsSz]
      simp only [Bool.not_false, if_true, if_false, List.length_cons, entSz, Bool.false_eq_true, e]
      rw [Nat.add_mul, Nat.one_mul]
      omega
theorem names_push (x : Ev) (m : List AEnt) : namesA (m.map (pushA x)) = namesA m := by
  unfold namesA
  rw [List.map_map]
  congr 1
  funext r
  show (pushA x r).1 = r.1
  unfold pushA
  split <;> rfl
theorem ainv0 : AInv ⟨[], 0⟩ := ⟨List.nodup_nil, fun _ h => absurd h List.not_mem_nil, by simp [sizeA], Nat.zero_le _⟩
theorem ainv_open {s : Am} (h : AInv s) (n : List UInt8) : AInv (openM s n) := by
  unfold openM
  split
  · rename_i h0
    unfold openE at h0
    split at h0
    · cases h0
    · rename_i h1
      split at h0
      · cases h0
      · rename_i h2
        split at h0
        · cases h0
        · rename_i h3
          refine ⟨?_, ?_, ?_, h.told⟩
          · show (namesA (s.m ++ [(n, [])])).Nodup
            unfold namesA
            rw [List.map_append, List.nodup_append]
            refine ⟨h.nd, by simp, ?_⟩
            intro a ha b hb
            simp at hb
            subst hb
            rintro rfl
            exact h2 ha
          · intro r hr
            rcases List.mem_append.1 hr with hr | hr
            · exact h.ok r hr
            · rw [List.mem_singleton] at hr
              subst hr
              exact ⟨trivial, by simpa using h1⟩
          · show sizeA (s.m ++ [(n, [])]) ≤ 200
            rw [sizeA_append, sizeA_cons]
            simp [entSz, evsSz, sizeA] at h3 ⊢
            omega
  · exact h
theorem takesA_of {m : List AEnt} {x : Ev} (h : takesA m x = true) {r : AEnt} (hr : r ∈ m) (hk : knownB r.2 = false) : stepE (runS [topP] r.2) x = 0 := by
  unfold takesA at h
  rw [List.all_eq_true] at h
  have := h r (by unfold pend; rw [List.mem_filter]; exact ⟨hr, by rw [hk]; rfl⟩)
  simpa using this
theorem stepAE_ok {s : Am} {x : Ev} (h : stepAE s x = 0) : takesA s.m x = true ∧ sizeA s.m + (pend s.m).length * evSz x ≤ 200 := by
  unfold stepAE at h
  split at h
  · cases h
  · rename_i h1
    split at h
    · cases h
    · exact ⟨by simpa using h1, by omega⟩
theorem ainv_step {s : Am} (h : AInv s) (x : Ev) : AInv (stepAM s x) := by
  unfold stepAM
  split
  · rename_i h0
    obtain ⟨h1, h2⟩ := stepAE_ok h0
    refine ⟨by show (namesA (s.m.map (pushA x))).Nodup; rw [names_push]; exact h.nd, ?_, by show sizeA (s.m.map (pushA x)) ≤ 200; rw [sizeA_push]; exact h2, h.told⟩
    intro r hr
    obtain ⟨q, hq, rfl⟩ := List.mem_map.1 hr
    have ho := h.ok q hq
    unfold pushA
    cases hk : knownB q.2 with
    | true => exact ho
    | false => exact ⟨(allOk_snoc _ _ _).2 ⟨ho.1, takesA_of h1 hq hk⟩, ho.2⟩
  · exact h
theorem ainv_get {s : Am} (h : AInv s) (n : List UInt8) : AInv (getM s n) := by
  unfold getM
  split
  · rename_i h0
    refine ⟨h.nd, h.ok, h.sz, ?_⟩
    show s.told + (getL s n).length ≤ 40
    unfold getL
    rw [if_pos h0]
    unfold getE at h0
    cases hl : lookA n s.m with
    | none => rw [hl] at h0; cases h0
    | some l =>
      rw [hl] at h0
      simp only at h0
      split at h0
      · cases h0
      · split at h0
        · cases h0
        · show s.told + l.length ≤ 40; omega
  · exact h
end Go.Proofs.YtalkjgijmceifaaGreatDoor
namespace Go.Proofs.YtalkjgijmceifaaGreatDoor
instance anFo : Fo := Fo.no
end Go.Proofs.YtalkjgijmceifaaGreatDoor
namespace Go.Proofs.YtalkjgijmceifaaGreatDoor
set_option linter.unusedSectionVars false
variable [Tab] [Fo]
end Go.Proofs.YtalkjgijmceifaaGreatDoor
namespace Go.Proofs.YtalkjgijmceifaaGreatDoor
open Go.RowKit Go.Maps
set_option maxRecDepth 100000
set_option linter.unusedSimpArgs false
set_option linter.unusedVariables false
set_option linter.unusedSectionVars false
variable [Tab]

def strV (l : List UInt8) : Value := .string ⟨l.toArray⟩
/-- Index and Contains. -/
theorem str_neq {x y : List UInt8} (h : ¬ x = y) : ((⟨x.toArray⟩ : ByteArray).toList == (⟨y.toArray⟩ : ByteArray).toList) = false ∧ ¬ (⟨x.toArray⟩ : ByteArray).toList = (⟨y.toArray⟩ : ByteArray).toList := str_diff (fun e => h (by have := congrArg (fun z : ByteArray => z.data.toList) e; simpa using this))
def SRead (w : World) (cv : Value) (l : List (List UInt8)) : Prop := ∃ A c, cv = .slice A l.length c ∧ (0 < l.length → ∃ ad : Addr, A = some ad ∧ ∀ j (h : j < l.length), w.cell? (ad.add j) = some (.string ⟨l[j].toArray⟩))
theorem ORow.sread {w : World} {base : Nat} {cv : Value} {l : List (List UInt8)} (h : ORow w base 9 cv (l.map strV)) : SRead w cv l := by
  rcases h.form with ⟨rfl, h0⟩ | ⟨g, cap, rfl, _⟩
  · have : l = [] := by simpa using h0
    subst this
    exact ⟨none, 0, rfl, fun h => absurd h (by simp)⟩
  · refine ⟨some ⟨g, 0, none⟩, cap, by rw [List.length_map], fun _ => ⟨_, rfl, fun j hj => ?_⟩⟩
    obtain ⟨ad, e, _, _, hc⟩ := h.cell (k := j) (by simpa using hj)
    injection e with e
    injection e with e
    subst e
    rw [addr_add0, hc]
    simp [strV]

set_option maxHeartbeats 4000000 in
theorem sindex_any (w : World) (cv : Value) (l : List (List UInt8)) (t : List UInt8) (hv : SRead w cv l) (hl : l.length ≤ 1000000) :
    Calls Tryz.prog 155 #[cv, .string ⟨t.toArray⟩] w fun e w' => (∃ i : Int, e = .returned (.int .i64 i) ∧ (t ∈ l → 0 ≤ i) ∧ (t ∉ l → i = -1)) ∧ ∃ n, w' = w.drewN n := by
  obtain ⟨A, c, rfl, hr⟩ := hv
  go_enter Tryz.func155, Tryz.ntmps155
  go_wp2
  go_loopw [8] (fun i wr => ∃ k : Nat, k ≤ l.length ∧ i = .int .i64 k ∧ Hid (t ∉ l.take k) ∧ ∃ n, wr = w.drewN n) (fun i _ => l.length - (intOf i).toNat)
  case atStart => exact ⟨0, Nat.zero_le _, rfl, Lib.hid (by simp), 0, rfl⟩
  case round =>
    obtain ⟨k, hk, rfl, HT, n, rfl⟩ := hrel
    by_cases hlt : k < l.length
    · obtain ⟨ad, rfl, hc⟩ := hr (by omega)
      have hck : (w.drewN n).cell? (ad.add k) = some (.string ⟨l[k].toArray⟩) := hc k hlt
      by_cases he : t = l[k]
      · have hm : t ∈ l := by rw [he]; exact List.getElem_mem hlt
        have HM := Lib.hid hm
        rw [← he] at hck
        clear he hc hr hm
        go_wp2
        go_ret
        exact ⟨⟨k, rfl, fun _ => by omega, fun h => absurd HM.out h⟩, n, rfl⟩
      · have n1 : (t == l[k]) = false := by rw [beq_eq_false_iff_ne]; exact he
        have HT2 : Hid (t ∉ l.take (k + 1)) := Lib.hid (by
          rw [List.take_succ_eq_append_getElem hlt, List.mem_append]
          rintro (h | h)
          · exact HT.out h
          · simp at h; exact he h)
        generalize l[k] = y at *
        clear he hc hr
        go_wp2
        go_roundw
        case rel => exact ⟨k + 1, hlt, by go_num, HT2, n, rfl⟩
        case measure => first | (simp [intOf]; done) | (simp [intOf]; omega)
    · have hke : k = l.length := by omega
      have h2 := HT.out
      rw [List.take_of_length_le (by omega)] at h2
      have HN := Lib.hid h2
      subst hke
      clear h2 HT hr
      go_wp2
      go_ret
      exact ⟨⟨-1, rfl, fun h => absurd h HN.out, fun _ => rfl⟩, n, rfl⟩
theorem scontains_any (w : World) (cv : Value) (l : List (List UInt8)) (t : List UInt8) (hv : SRead w cv l) (hl : l.length ≤ 1000000) :
    Calls Tryz.prog 154 #[cv, .string ⟨t.toArray⟩] w fun e w' => e = .returned (.bool (decide (t ∈ l))) ∧ ∃ n, w' = w.drewN n := by
  have hC := Lib.hid (sindex_any w cv l t hv hl)
  obtain ⟨q, hq⟩ : ∃ q, decide (t ∈ l) = q := ⟨_, rfl⟩
  rw [hq]
  clear hv
  go_enter Tryz.func154, Tryz.ntmps154
  go_wp2_with fail
  refine hC.out.mono ?_
  rintro e w' ⟨⟨i, rfl, h1, h2⟩, n, rfl⟩
  by_cases hm : t ∈ l
  · have h0 := h1 hm
    have z : decide (0 ≤ i) = true := by simpa using h0
    have hd : decide (t ∈ l) = true := by simpa using hm
    rw [hd] at hq
    subst hq
    clear h1 h2 hm hC hd
    go_wp2
    go_ret
    exact ⟨rfl, n, rfl⟩
  · have h0 := h2 hm
    have hd : decide (t ∈ l) = false := by simpa using hm
    rw [hd] at hq
    subst hq
    clear hd
    subst h0
    clear h1 h2 hm hC
    go_wp2
    go_ret
    exact ⟨rfl, n, rfl⟩
end Go.Proofs.YtalkjgijmceifaaGreatDoor
namespace Go.Proofs.YtalkjgijmceifaaGreatDoor
open Go.RowKit Go.Maps
set_option maxRecDepth 100000
set_option linter.unusedSimpArgs false
set_option linter.unusedVariables false


set_option linter.unusedSectionVars false
variable [Tab]
/-! What a call may turn: blocks of a set, of some kinds, and new ones. -/
structure TS (S : Nat → Prop) (p : Obj → Prop) (w w' : World) : Prop where
  os : w'.os = w.os
  tape : w'.tape = w.tape
  output : w'.output = w.output
  size : w.heap.size ≤ w'.heap.size
  block : ∀ k o, w.heap[k]? = some o → (¬ S k ∨ ¬ p o) → w'.heap[k]? = some o
def Ext (S : Nat → Prop) (w w' : World) (k : Nat) : Prop := S k ∨ (w.heap.size ≤ k ∧ k < w'.heap.size)
def anyO (_ : Obj) : Prop := True
section
variable {S : Nat → Prop} {p q : Obj → Prop} {w w1 w' : World}
theorem TS.refl (S : Nat → Prop) (p : Obj → Prop) (w : World) : TS S p w w := ⟨rfl, rfl, rfl, Nat.le_refl _, fun _ _ h _ => h⟩
theorem TS.trans (h : TS S p w w1) (k : TS S p w1 w') : TS S p w w' := ⟨k.os.trans h.os, k.tape.trans h.tape, k.output.trans h.output, Nat.le_trans h.size k.size, fun i o ho hc => k.block i o (h.block i o ho hc) hc⟩
theorem heap_lt {k : Nat} {o : Obj} (h : w.heap[k]? = some o) : k < w.heap.size := (Array.getElem?_eq_some_iff.1 h).1
theorem TS.transE (h : TS S p w w1) (k : TS (Ext S w w1) p w1 w') : TS S p w w' := ⟨k.os.trans h.os, k.tape.trans h.tape, k.output.trans h.output, Nat.le_trans h.size k.size, fun i o ho hc => k.block i o (h.block i o ho hc) (hc.imp (fun hn => by
  rintro (h1 | ⟨h1, _⟩)
  · exact hn h1
  · have := heap_lt ho; omega) id)⟩
theorem TS.wide (h : TS S p w w') (hp : ∀ o, p o → q o) : TS S q w w' := ⟨h.os, h.tape, h.output, h.size, fun k o ho hc => h.block k o ho (hc.imp id fun hn hp' => hn (hp o hp'))⟩
theorem TS.any (h : TS S p w w') : TS S anyO w w' := h.wide fun _ _ => trivial
theorem TS.of_below (h : Below w.heap.size w w') : TS S p w w' := ⟨h.os, h.tape, h.output, h.size, fun k _ ho _ => (h.block k (heap_lt ho)).trans ho⟩
theorem TS.of_grown {g : Nat} {o : Obj} (h : w.grownBy w' (some g)) (hg : S g) (ho : w.heap[g]? = some o) (hp : p o) : TS S p w w' :=
  ⟨h.os, h.tape, h.output, h.size, fun k o' ho' hc => by
    refine (h.block k (heap_lt ho') ?_).trans ho'
    intro e
    injection e with e
    subst e
    rw [ho] at ho'
    injection ho' with ho'
    subst ho'
    rcases hc with hc | hc
    · exact hc hg
    · exact hc hp⟩
theorem TS.of_grown_none (h : w.grownBy w' none) : TS S p w w' := ⟨h.os, h.tape, h.output, h.size, fun k _ ho' _ => (h.block k (heap_lt ho') (by simp)).trans ho'⟩
theorem TS.of_row {b : Nat} {e : TypeId} {size n : Nat} {v : Value} {xs : List Value} (hr : w.ownsRow b e size v n xs) (h : w.grownBy w' v.ownBlock) (hf : ∀ g, v.ownBlock = some g → S g) (hp : ∀ cur, p (.cells cur e (0, 0))) : TS S p w w' := by
  cases hv : v.ownBlock with
  | none => rw [hv] at h; exact TS.of_grown_none h
  | some g =>
    obtain ⟨cur, hh⟩ := row_obj hr hv
    rw [hv] at h
    exact TS.of_grown h (hf g hv) hh (hp _)
theorem TS.set (h : TS S p w w') {g : Nat} {t : TypeId} {cs : Array Value} (hk : Blk w' g t cs) (hf : S g) (hp : p (.cells cs t (0, 0))) (i : Nat) (u : Value) : TS S p w (w'.setCell ⟨g, i, none⟩ u) :=
  h.trans (TS.of_grown (only_setCell (World.grownBy.refl w' (some g)) (.inl rfl) u) hf hk hp)
theorem TS.alloc (h : TS S p w w') (o : Obj) : TS S p w (w'.alloc o) := h.trans (TS.of_below ((Below.refl _ _).alloc (Nat.le_refl _) _))
theorem TS.drewN (h : TS S p w w') (n : Nat) : TS S p w (w'.drewN n) := ⟨h.os, h.tape, h.output, h.size, h.block⟩
theorem TS.drew (h : TS S p w w') : TS S p w w'.drew := ⟨h.os, h.tape, h.output, h.size, h.block⟩
theorem TS.mono {S' : Nat → Prop} (h : TS S p w w') (hs : ∀ k, S k → S' k) : TS S' p w w' := ⟨h.os, h.tape, h.output, h.size, fun k o ho hc => h.block k o ho (hc.imp (fun hn hs' => hn (hs k hs')) id)⟩
/-- Where the blocks are all new to a world, nothing older has turned. -/
theorem TS.below {B : Nat} (h : TS S p w w') (hB : B ≤ w.heap.size) (hS : ∀ k, S k → B ≤ k) : Below B w w' :=
  ⟨h.os, h.tape, h.output, h.size, fun k hk => by
    obtain ⟨o, ho⟩ := heap_some (w := w) (Nat.lt_of_lt_of_le hk hB)
    rw [h.block k o ho (.inl fun hs => by have := hS k hs; omega), ho]⟩
theorem Blk.ts {g : Nat} {t : TypeId} {cs : Array Value} (h : Blk w g t cs) (ht : TS S p w w') (hp : ¬ S g ∨ ¬ p (.cells cs t (0, 0))) : Blk w' g t cs := ht.block _ _ h hp
theorem row_ts {b : Nat} {e : TypeId} {size n : Nat} {v : Value} {xs : List Value} (h : w.ownsRow b e size v n xs) (ht : TS S p w w') (hp : (∀ g, v.ownBlock = some g → ¬ S g) ∨ ∀ cur fr, ¬ p (.cells cur e fr)) : w'.ownsRow b e size v n xs := by
  refine ⟨h.1, ?_⟩
  rcases h.2 with hn | ⟨g, cap, cur, hv, hg, hh, r⟩
  · exact .inl hn
  · refine .inr ⟨g, cap, cur, hv, hg, ht.block _ _ hh ?_, r⟩
    rcases hp with hp | hp
    · exact .inl (hp g (by rw [hv]; rfl))
    · exact .inr (hp _ _)
theorem Ext.of (w w' : World) {k : Nat} (h : S k) : Ext S w w' k := .inl h
theorem Ext.lt (h : ∀ k, S k → k < w.heap.size) (hs : w.heap.size ≤ w'.heap.size) : ∀ k, Ext S w w' k → k < w'.heap.size := by
  rintro k (h1 | ⟨_, h1⟩)
  · have := h k h1; omega
  · exact h1
theorem Ext.ext (h1 : w.heap.size ≤ w1.heap.size) (h2 : w1.heap.size ≤ w'.heap.size) {k : Nat} (h : Ext (Ext S w w1) w1 w' k) : Ext S w w' k := by
  rcases h with (h | ⟨a, b⟩) | ⟨a, b⟩
  · exact .inl h
  · exact .inr ⟨a, by omega⟩
  · exact .inr ⟨by omega, b⟩
theorem Ext.wide (h2 : w1.heap.size ≤ w'.heap.size) {k : Nat} (h : Ext S w w1 k) : Ext S w w' k := by
  rcases h with h | ⟨a, b⟩
  · exact .inl h
  · exact .inr ⟨a, by omega⟩
end

theorem row_get {w : World} {base r : Nat} {e : TypeId} {size n cap : Nat} {xs : List Value} (h : w.ownsRow base e size (.slice (some ⟨r, 0, none⟩) n cap) n xs) {i : Nat} (hi : i < n * size) : ∃ u, w.cell? ⟨r, i, none⟩ = some u := by
  have hl := h.1
  exact ⟨xs[i]'(by omega), by rw [rowN_cell h hi]; exact List.getElem?_eq_getElem (by omega)⟩

/-! The kinds of what an Anchors holds. -/
def kA : Obj → Prop
  | .cells _ t _ => t = 89
  | _ => False
def kM : Obj → Prop
  | .map _ _ => True
  | _ => False
def kO : Obj → Prop
  | .cells _ t _ => t = 9
  | _ => False
def kP : Obj → Prop
  | .cells _ t _ => t = 97
  | _ => False
def kE : Obj → Prop
  | .cells _ t _ => t = 38
  | _ => False

/-- One that is kept: its name, its events, the block of its anchor, the slice that lies there. -/
structure ARec where
  nm : List UInt8
  evs : List Ev
  p : Nat
  lv : Value
def ARec.ent (r : ARec) : AEnt := (r.nm, r.evs)
def lookK (n : List UInt8) : List ARec → Option Nat
  | [] => none
  | r :: K => if r.nm = n then some r.p else lookK n K
theorem lookK_snoc (n : List UInt8) (K : List ARec) (r : ARec) : lookK n (K ++ [r]) = match lookK n K with | some p => some p | none => if r.nm = n then some r.p else none := by
  induction K with
  | nil => rfl
  | cons q K ih =>
    rw [List.cons_append]
    simp only [lookK]
    split
    · rfl
    · exact ih
theorem lookK_none {n : List UInt8} {K : List ARec} : lookK n K = none ↔ n ∉ K.map (·.nm) := by
  induction K with
  | nil => simp [lookK]
  | cons r K ih =>
    simp only [lookK, List.map_cons, List.mem_cons, not_or]
    by_cases h : r.nm = n
    · rw [if_pos h]; simp [h.symm]
    · rw [if_neg h, ih]; exact ⟨fun h2 => ⟨fun e => h e.symm, h2⟩, fun h2 => h2.2⟩
theorem lookK_mem {K : List ARec} (hn : (K.map (·.nm)).Nodup) {r : ARec} (hr : r ∈ K) : lookK r.nm K = some r.p := by
  induction K with
  | nil => cases hr
  | cons q K ih =>
    rw [List.map_cons, List.nodup_cons] at hn
    simp only [lookK]
    rcases List.mem_cons.1 hr with rfl | hr
    · rw [if_pos rfl]
    · have : q.nm ≠ r.nm := fun e => hn.1 (by rw [e]; exact List.mem_map_of_mem hr)
      rw [if_neg this]
      exact ih hn.2 hr

/-- How a pointer in the map reads. -/
def elemP : Value → Option (DataW Unit × List MemPlace)
  | .pointer (some ⟨p, 0, none⟩) => some (.lit (.int .i64 (p : Int)), [])
  | .pointer none => some (.nil, [])
  | _ => none
theorem elemP_inv {v : Value} {z : DataW Unit × List MemPlace} (h : elemP v = some z) : (∃ p : Nat, v = .pointer (some ⟨p, 0, none⟩) ∧ z = (.lit (.int .i64 (p : Int)), [])) ∨ (v = .pointer none ∧ z = (.nil, [])) := by
  unfold elemP at h
  split at h
  · injection h with h; exact .inl ⟨_, rfl, h.symm⟩
  · injection h with h; exact .inr ⟨rfl, h.symm⟩
  · cases h
def MapP (w : World) (b : Nat) (K : List ARec) : Prop :=
  ∃ D, w.ownsMap (H := Unit) Tryz.prog 9 elemP b K.length D ∧ (∀ n, Maps.has D (.string n) = (lookK n K).isSome) ∧ (∀ n z, D.atKey (.string n) z = match lookK n K with | some p => .lit (.int .i64 (p : Int)) | none => z) ∧ Maps.size D = K.length
section
variable {w w' : World} {b : Nat} {K : List ARec}
theorem MapP.lt (h : MapP w b K) : b < w.heap.size := by obtain ⟨D, h, _⟩ := h; exact h.lt
theorem MapP.obj (h : MapP w b K) : ∃ es c, w.heap[b]? = some (.map es c) := by obtain ⟨D, ⟨es, c, hb, _⟩, _⟩ := h; exact ⟨es, c, hb⟩
theorem MapP.keep (h : MapP w b K) (hk : w'.heap[b]? = w.heap[b]?) : MapP w' b K := by
  obtain ⟨D, ⟨es, c, hb, r⟩, h2⟩ := h
  exact ⟨D, ⟨es, c, hk.trans hb, r⟩, h2⟩
theorem MapP.ts {S : Nat → Prop} {p : Obj → Prop} (h : MapP w b K) (ht : TS S p w w') (hp : ¬ S b ∨ ∀ es c, ¬ p (.map es c)) : MapP w' b K := by
  obtain ⟨es, c, hb⟩ := h.obj
  exact h.keep (by rw [ht.block _ _ hb (hp.imp id fun h => h _ _), hb])
theorem MapP.congr {K' : List ARec} (h : MapP w b K) (hl : K'.length = K.length) (hk : ∀ n, lookK n K' = lookK n K) : MapP w b K' := by
  obtain ⟨D, h1, h2, h3, h4⟩ := h
  exact ⟨D, by rw [hl]; exact h1, fun n => by rw [hk]; exact h2 n, fun n z => by rw [hk]; exact h3 n z, by rw [hl]; exact h4⟩
theorem MapP.new (w : World) : MapP (w.alloc (.map #[] 0)) w.heap.size [] :=
  ⟨.map [], World.ownsMap_made w _ _ _, fun _ => rfl, fun _ _ => rfl, rfl⟩
theorem MapP.put (h : MapP w b K) {n : ByteArray} (hp : n.size ≤ maxLen) (hn : K.length < maxLen) (hl : lookK n.data.toList K = none) (r : ARec) (hr : r.nm = n.data.toList) :
    ∃ w', (Instr.mapUpdate 87 (.map (some b)) (.string n) (.pointer (some ⟨r.p, 0, none⟩))).run Tryz.prog w = .ok () w' ∧ MapP w' b (K ++ [r]) ∧ w.grownBy w' (some b) := by
  obtain ⟨D, h1, h2, h3, h4⟩ := h
  obtain ⟨w', hr', ho, hg⟩ := h1.update (t := 87) strLaw Tryz.underlying87 hn (WideMaps.keyOf_string_mk Tryz.underlying9 hp) (show elemP (.pointer (some ⟨r.p, 0, none⟩)) = some (.lit (.int .i64 (r.p : Int)), []) from rfl)
  have hk : WideAt.IsKeyLit (.string n.data.toList) := by simp [WideAt.IsKeyLit]
  have hT := h1.tidy strLaw
  refine ⟨w', hr', ⟨_, by rw [List.length_append]; exact ho, fun q => ?_, fun q z => ?_, ?_⟩, hg⟩
  · rw [lookK_snoc, hr]
    by_cases hq : q = n.data.toList
    · subst hq
      rw [has_put_same h1.isMap hk, hl]
      simp
    · rw [has_put_other (by simpa using hq), h2]
      rw [if_neg (Ne.symm hq)]
      cases lookK q K <;> rfl
  · rw [lookK_snoc, hr]
    by_cases hq : q = n.data.toList
    · subst hq
      rw [atKey_put_same h1.isMap hk, hl]
      simp
    · rw [atKey_put_other (by simpa using hq), h3]
      rw [if_neg (Ne.symm hq)]
      cases lookK q K <;> rfl
  · rw [size_put hT, h2, hl, List.length_append]
    simp [h4]
theorem MapP.look (h : MapP w b K) {n : ByteArray} (hn : n.size ≤ 140737488355328) {p : Nat} (hl : lookK n.data.toList K = some p) :
    (Instr.lookup 87 (.map (some b)) (.string n) false).run Tryz.prog w = .ok (.pointer (some ⟨p, 0, none⟩)) w := by
  obtain ⟨D, h1, h2, h3, h4⟩ := h
  obtain ⟨v, ps, hrun, hv⟩ := h1.lookup (t := 87) strLaw Tryz.underlying87 (Tryz.zeroValue95 _) (show elemP (.pointer none) = some (.nil, []) from rfl) (WideMaps.keyOf_string_mk Tryz.underlying9 (show n.size ≤ maxLen by simp only [maxLen]; omega))
  rw [h3, hl] at hv
  rcases elemP_inv hv with ⟨q, rfl, hz⟩ | ⟨rfl, hz⟩
  · injection hz with hz _
    injection hz with hz
    injection hz with _ hz
    have : p = q := by omega
    subst this
    exact hrun
  · injection hz with hz _
    cases hz
theorem MapP.look_ok (h : MapP w b K) {n : ByteArray} (hn : n.size ≤ 140737488355328) :
    (∀ p, lookK n.data.toList K = some p → (Instr.lookup 87 (.map (some b)) (.string n) true).run Tryz.prog w = .ok (.tuple #[.pointer (some ⟨p, 0, none⟩), .bool true]) w) ∧
    (lookK n.data.toList K = none → (Instr.lookup 87 (.map (some b)) (.string n) true).run Tryz.prog w = .ok (.tuple #[.pointer none, .bool false]) w) := by
  obtain ⟨D, h1, h2, h3, h4⟩ := h
  obtain ⟨v, ps, hrun, hv⟩ := h1.look_ok (t := 87) strLaw Tryz.underlying87 (Tryz.zeroValue95 _) (show elemP (.pointer none) = some (.nil, []) from rfl) (WideMaps.keyOf_string_mk Tryz.underlying9 (show n.size ≤ maxLen by simp only [maxLen]; omega))
  rw [h2] at hrun
  rw [h3] at hv
  constructor
  · intro p hl
    rw [hl] at hrun hv
    rcases elemP_inv hv with ⟨q, rfl, hz⟩ | ⟨rfl, hz⟩
    · injection hz with hz _
      injection hz with hz
      injection hz with _ hz
      have : p = q := by omega
      subst this
      exact hrun
    · injection hz with hz _
      cases hz
  · intro hl
    rw [hl] at hrun hv
    rcases elemP_inv hv with ⟨q, rfl, hz⟩ | ⟨rfl, hz⟩
    · injection hz with hz _
      cases hz
    · exact hrun
end

/-! An anchor, and all. -/
structure KRec (w : World) (S : Nat → Prop) (r : ARec) : Prop where
  blk : Blk w r.p 97 #[r.lv]
  row : ERow w 0 r.lv r.evs
  sp : S r.p
  sr : ∀ g, r.lv.ownBlock = some g → S g
def aCells (mb : Nat) (ov : Value) (size told : Nat) : Array Value := #[.map (some mb), ov, .int .i64 (size : Int), .int .i64 (told : Int)]
def apartR (r q : ARec) : Prop := r.nm ≠ q.nm ∧ r.p ≠ q.p ∧ ∀ g, r.lv.ownBlock = some g → q.lv.ownBlock ≠ some g
structure ARest (w : World) (S : Nat → Prop) (a : Nat) (K : List ARec) (size told mb : Nat) (ov : Value) : Prop where
  blk : Blk w a 89 (aCells mb ov size told)
  sa : S a
  sm : S mb
  map : MapP w mb K
  recs : ∀ r ∈ K, KRec w S r
  ap : K.Pairwise apartR
structure ARep (w : World) (S : Nat → Prop) (a : Nat) (K : List ARec) (op : List (List UInt8)) (size told mb : Nat) (ov : Value) : Prop where
  rest : ARest w S a K size told mb ov
  so : ∀ g, ov.ownBlock = some g → S g
  opn : ORow w 0 9 ov (op.map strV)
section
variable {w w' : World} {S S' : Nat → Prop} {a : Nat} {K : List ARec} {op : List (List UInt8)} {size told mb : Nat} {ov : Value} {p : Obj → Prop}
theorem KRec.ts {r : ARec} (h : KRec w S r) (ht : TS S p w w') (h1 : ∀ cs fr, ¬ p (.cells cs 97 fr)) (h2 : ∀ cs fr, ¬ p (.cells cs 38 fr)) : KRec w' S r :=
  ⟨h.blk.ts ht (.inr (h1 _ _)), row_ts h.row ht (.inr h2), h.sp, h.sr⟩
theorem KRec.off {T : Nat → Prop} {r : ARec} (h : KRec w S r) (ht : TS T p w w') (hd : ∀ k, S k → ¬ T k) : KRec w' S r :=
  ⟨h.blk.ts ht (.inl (hd _ h.sp)), row_ts h.row ht (.inl fun g hg => hd _ (h.sr g hg)), h.sp, h.sr⟩
theorem row_lt {b : Nat} {e : TypeId} {sz n : Nat} {v : Value} {xs : List Value} (h : w.ownsRow b e sz v n xs) : ∀ g, v.ownBlock = some g → g < w.heap.size := fun g hg => (World.ownsRow.lt h g hg).2
/-- What lies elsewhere turned alone. -/
theorem ARest.off {T : Nat → Prop} (h : ARest w S a K size told mb ov) (ht : TS T p w w') (hd : ∀ k, S k → ¬ T k) : ARest w' S a K size told mb ov :=
  ⟨h.blk.ts ht (.inl (hd _ h.sa)), h.sa, h.sm, h.map.ts ht (.inl (hd _ h.sm)), fun r hr => (h.recs r hr).off ht hd, h.ap⟩
theorem ARep.off {T : Nat → Prop} (h : ARep w S a K op size told mb ov) (ht : TS T p w w') (hd : ∀ k, S k → ¬ T k) : ARep w' S a K op size told mb ov :=
  ⟨h.rest.off ht hd, h.so, row_ts h.opn ht (.inl fun g hg => hd _ (h.so g hg))⟩
theorem ARep.below (h : ARep w S a K op size told mb ov) (hb : Below w.heap.size w w') : ARep w' S a K op size told mb ov :=
  h.off (T := fun _ => False) (p := anyO) (TS.of_below hb) (fun _ _ h => h)
theorem ARep.mono (h : ARep w S a K op size told mb ov) (hs : ∀ k, k < w.heap.size → S k → S' k) : ARep w S' a K op size told mb ov :=
  ⟨⟨h.rest.blk, hs _ h.rest.blk.lt h.rest.sa, hs _ h.rest.map.lt h.rest.sm, h.rest.map, fun r hr => ⟨(h.rest.recs r hr).blk, (h.rest.recs r hr).row, hs _ (h.rest.recs r hr).blk.lt (h.rest.recs r hr).sp, fun g hg => hs _ (row_lt (h.rest.recs r hr).row g hg) ((h.rest.recs r hr).sr g hg)⟩, h.rest.ap⟩, fun g hg => hs _ (row_lt h.opn g hg) (h.so g hg), h.opn⟩
theorem ARest.cells (h : ARest w S a K size told mb ov) : w.cell? ⟨a, 0, none⟩ = some (.map (some mb)) ∧ w.cell? ⟨a, 1, none⟩ = some ov ∧ w.cell? ⟨a, 2, none⟩ = some (.int .i64 (size : Int)) ∧ w.cell? ⟨a, 3, none⟩ = some (.int .i64 (told : Int)) :=
  ⟨h.blk.cell 0, h.blk.cell 1, h.blk.cell 2, h.blk.cell 3⟩
/-- A store into the block of the Anchors itself. -/
theorem ARest.setA (h : ARest w S a K size told mb ov) (i : Nat) (u : Value) {ov' : Value} {size' told' : Nat} (hc : (aCells mb ov size told).setIfInBounds i u = aCells mb ov' size' told') : ARest (w.setCell ⟨a, i, none⟩ u) S a K size' told' mb ov' ∧ TS S kA w (w.setCell ⟨a, i, none⟩ u) := by
  have ht : TS S kA w (w.setCell ⟨a, i, none⟩ u) := (TS.refl _ _ _).set h.blk h.sa (show kA (.cells _ _ _) from rfl) i u
  exact ⟨⟨by rw [← hc]; exact h.blk.set_ i u, h.sa, h.sm, h.map.ts ht (.inr fun _ _ h => h), fun r hr => (h.recs r hr).ts ht (fun _ _ => by simp only [kA]; decide) (fun _ _ => by simp only [kA]; decide), h.ap⟩, ht⟩
/-- Rows of names turned alone. -/
theorem ARest.kO (h : ARest w S a K size told mb ov) (hg : TS S kO w w') : ARest w' S a K size told mb ov :=
  ⟨h.blk.ts hg (.inr (by simp only [Go.Proofs.YtalkjgijmceifaaGreatDoor.kO]; decide)), h.sa, h.sm, h.map.ts hg (.inr fun _ _ h => h), fun r hr => (h.recs r hr).ts hg (fun _ _ => by simp only [Go.Proofs.YtalkjgijmceifaaGreatDoor.kO]; decide) (fun _ _ => by simp only [Go.Proofs.YtalkjgijmceifaaGreatDoor.kO]; decide), h.ap⟩
end
/-- The blocks of a set, and all that a world has not. -/
def Up (S : Nat → Prop) (w : World) (k : Nat) : Prop := S k ∨ w.heap.size ≤ k
theorem TS.cut {S : Nat → Prop} {p : Obj → Prop} {w w' : World} (h : TS (Up S w) p w w') : TS S p w w' :=
  ⟨h.os, h.tape, h.output, h.size, fun k o ho hc => h.block k o ho (hc.imp (fun hn hu => by
    rcases hu with hu | hu
    · exact hn hu
    · have := heap_lt ho; omega) id)⟩
theorem TS.up {S : Nat → Prop} {p : Obj → Prop} {w w' w0 : World} (h : TS S p w w') : TS (Up S w0) p w w' := h.mono fun _ h => .inl h
/-- An Anchors that holds just s. -/
def AAt (w : World) (S : Nat → Prop) (a : Nat) (s : Am) : Prop := (∀ k, S k → k < w.heap.size) ∧ ∃ K op mb ov, ARep w S a K op (sizeA s.m) s.told mb ov ∧ K.map ARec.ent = s.m ∧ op.Perm (namesA (pend s.m))
section
variable {w w' : World} {S S' : Nat → Prop} {a : Nat} {s : Am} {p : Obj → Prop}
theorem AAt.off {T : Nat → Prop} (h : AAt w S a s) (ht : TS T p w w') (hd : ∀ k, S k → ¬ T k) : AAt w' S a s := by
  obtain ⟨hl, K, op, mb, ov, hR, h2⟩ := h
  exact ⟨fun k hk => Nat.lt_of_lt_of_le (hl k hk) ht.size, K, op, mb, ov, hR.off ht hd, h2⟩
theorem AAt.below (h : AAt w S a s) (hb : Below w.heap.size w w') : AAt w' S a s := h.off (T := fun _ => False) (p := anyO) (TS.of_below hb) (fun _ _ h => h)
theorem AAt.lt (h : AAt w S a s) : ∀ k, S k → k < w.heap.size := h.1
theorem AAt.at_lt (h : AAt w S a s) : a < w.heap.size := by obtain ⟨_, _, _, _, _, hR, _⟩ := h; exact hR.rest.blk.lt
/-- Behind a call that began at w. -/
theorem AAt.mk' {K : List ARec} {op : List (List UInt8)} {mb : Nat} {ov : Value} (hl : ∀ k, S k → k < w.heap.size) (hs : w.heap.size ≤ w'.heap.size) (hR : ARep w' (Up S w) a K op (sizeA s.m) s.told mb ov) (hK : K.map ARec.ent = s.m) (hO : op.Perm (namesA (pend s.m))) : AAt w' (Ext S w w') a s :=
  ⟨Ext.lt hl hs, K, op, mb, ov, hR.mono fun k hk hu => hu.imp id fun h => ⟨h, hk⟩, hK, hO⟩
end

/-! Appends, with the block of what comes of it. -/
section
variable {P : Program} {w : World}
theorem wp_appX {ops : Array Oper} {rest : List Oper} {o : Oper} {a : Act} {Q : Exit → Act → World → Prop} (hgd : o.guard = none) (s x : Operand) (t : TypeId)
    (ho : o.op = .call { callee := .builtin .append, args := #[s, x], argTypes := #[t, t] })
    (base : Nat) (e : TypeId) (z : Value) (size bytes : Nat) (ht : P.underlying t = some (.slice e)) (hinfo : (P.info? e).map (fun i => (i.zero, i.size, i.bytes)) = some (some z, size, bytes)) (hz1 : z.cells.size = size) (hs0 : 0 < size)
    (v : Value) (n : Nat) (xs news : List Value) (hs : a.eval s = v) (hown : w.ownsRow base e size v n xs) (hu : ∀ u ∈ news, u.oneCell' = true)
    (A : Addr) (m c : Nat) (hm : news.length = m * size) (hx : a.eval x = .slice (some A) m c) (hc : ∀ j u, news[j]? = some u → w.cell? (A.add j) = some u)
    (h63 : n + m ≤ maxLen) (hbytes : (n + m) * bytes ≤ 140737488355328) (hbase : base ≤ w.heap.size)
    (h : ∀ v' w', w'.ownsRow base e size v' (n + m) (xs ++ news) → w.grownBy w' v.ownBlock → NB w v v' → wpList P ops Q rest (a.put o.dst v') w') :
    wpList P ops Q (o :: rest) a w := by
  obtain ⟨i, hi, hz, hsize, hby⟩ := info_parts hinfo
  refine wpList_plain hgd fun K hK => ?_
  obtain ⟨v', w', hrun, h2, h3, _, h5⟩ := run_append_own_at (P := P) w base t o.type e i z size bytes ht hi hz hsize hby hz1 hs0 v n xs hown A m c news hm hc hu h63 hbytes hbase
  unfold Oper.wp execOp
  simp only [ho, resolve, invoke, builtin, Sem.run_bind, Sem.run_pure, Result.andThen_ok, List.map_toArray, List.map_cons, List.map_nil, hs, hx, hrun]
  exact hK _ _ (h v' w' h2 h3 (h5.imp id fun e => ⟨_, e, Nat.le_refl _⟩))
theorem step_appX {ops : Array Oper} {o : Oper} {a : Act} {K : Act → World → Prop} {Q : Exit → Act → World → Prop} {E : Prop} (hgd : o.guard = none) (s x : Operand) (t : TypeId)
    (ho : o.op = .call { callee := .builtin .append, args := #[s, x], argTypes := #[t, t] })
    (base : Nat) (e : TypeId) (z : Value) (size bytes : Nat) (ht : P.underlying t = some (.slice e)) (hinfo : (P.info? e).map (fun i => (i.zero, i.size, i.bytes)) = some (some z, size, bytes)) (hz1 : z.cells.size = size) (hs0 : 0 < size)
    (v : Value) (n : Nat) (xs news : List Value) (hs : a.eval s = v) (hown : w.ownsRow base e size v n xs) (hu : ∀ u ∈ news, u.oneCell' = true)
    (A : Addr) (m c : Nat) (hm : news.length = m * size) (hx : a.eval x = .slice (some A) m c) (hc : ∀ j u, news[j]? = some u → w.cell? (A.add j) = some u)
    (h63 : n + m ≤ maxLen) (hbytes : (n + m) * bytes ≤ 140737488355328) (hbase : base ≤ w.heap.size)
    (h : ∀ v' w', w'.ownsRow base e size v' (n + m) (xs ++ news) → w.grownBy w' v.ownBlock → NB w v v' → K (a.put o.dst v') w') :
    if Region.wanted o (yielded ops a.tmps) = true then Oper.wp P o a w K Q else E := by
  have hw : Region.wanted o (yielded ops a.tmps) = true := by simp [Region.wanted, hgd]
  rw [if_pos hw]
  obtain ⟨i, hi, hz, hsize, hby⟩ := info_parts hinfo
  obtain ⟨v', w', hrun, h2, h3, _, h5⟩ := run_append_own_at (P := P) w base t o.type e i z size bytes ht hi hz hsize hby hz1 hs0 v n xs hown A m c news hm hc hu h63 hbytes hbase
  unfold Oper.wp execOp
  simp only [ho, resolve, invoke, builtin, Sem.run_bind, Sem.run_pure, Result.andThen_ok, List.map_toArray, List.map_cons, List.map_nil, hs, hx, hrun]
  exact h v' w' h2 h3 (h5.imp id fun e => ⟨_, e, Nat.le_refl _⟩)
end
end Go.Proofs.YtalkjgijmceifaaGreatDoor
