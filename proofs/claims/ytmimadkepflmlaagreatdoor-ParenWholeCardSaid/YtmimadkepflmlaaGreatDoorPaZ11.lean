/-
  What a call turns, told by the kind of the objects: every block below a bound, and every block of another kind, lies as it lay.
  token: an open number, as it lies in a cell; blanks.
  A scope out of which the run jumps forward, a few times at most: to whichever label.
  New, Step and Whole: a Scan is a block of three cells; a step turns that block alone.
-/
import Derived.Test.YtmimadkepflmlaaGreatDoorPaZ05
import Derived.Test.YtmimadkepflmlaaGreatDoorPaZ04
import Derived.Test.YtmimadkepflmlaaGreatDoorPaZ10
import Derived.Test.YtmimadkepflmlaaGreatDoorPaZ09
import Derived.StillTailTactics
import Derived.WalkKit
import Derived.WalkMore
import Derived.ScopeJumps
namespace Go.Proofs.YtmimadkepflmlaaGreatDoor
open Go.RowKit

set_option linter.unusedSectionVars false
/-- Blocks that are not the object's own, though they lie above its base. -/
class Fo where
  F : Nat → Prop
  lim : Nat
  ok : ∀ k, F k → k < lim
/-- No such blocks. -/
@[reducible] def Fo.no : Fo := ⟨fun _ => False, 0, fun _ h => h.elim⟩
variable [Fo]
def NF (v : Value) : Prop := ∀ g, v.ownBlock = some g → ¬ Fo.F g
/-- The block of a row that was appended to: its own, or new. -/
def NB (w : World) (v v' : Value) : Prop := v'.ownBlock = v.ownBlock ∨ ∃ k, v'.ownBlock = some k ∧ w.heap.size ≤ k
theorem nf_new {k : Nat} (h : Fo.lim ≤ k) : ¬ Fo.F k := fun hc => by have := Fo.ok k hc; omega
theorem NF.nil {n c : Nat} : NF (.slice none n c) := fun g h => by cases h
theorem NF.nb {w : World} {v v' : Value} (h : NF v) (hb : NB w v v') (hl : Fo.lim ≤ w.heap.size) : NF v' := by
  rcases hb with e | ⟨k, e, hk⟩
  · intro g hg; exact h g (e ▸ hg)
  · intro g hg
    rw [e] at hg
    injection hg with hg
    subst hg
    exact nf_new (Nat.le_trans hl hk)
theorem NF.slice {g n c m d : Nat} (h : NF (.slice (some ⟨g, 0, none⟩) n c)) : NF (.slice (some ⟨g, 0, none⟩) m d) := h
structure Tch (base : Nat) (p : Obj → Prop) (w w' : World) : Prop where
  os : w'.os = w.os
  tape : w'.tape = w.tape
  output : w'.output = w.output
  size : w.heap.size ≤ w'.heap.size
  block : ∀ k o, w.heap[k]? = some o → (k < base ∨ ¬ p o ∨ Fo.F k) → w'.heap[k]? = some o

section
variable {base : Nat} {p : Obj → Prop} {w w' w'' : World}
theorem heap_some {k : Nat} (h : k < w.heap.size) : ∃ b, w.heap[k]? = some b := ⟨w.heap[k], Array.getElem?_eq_getElem h⟩
theorem Tch.refl (base : Nat) (p : Obj → Prop) (w : World) : Tch base p w w := ⟨rfl, rfl, rfl, Nat.le_refl _, fun _ _ h _ => h⟩
theorem Tch.trans (h : Tch base p w w') (k : Tch base p w' w'') : Tch base p w w'' :=
  ⟨k.os.trans h.os, k.tape.trans h.tape, k.output.trans h.output, Nat.le_trans h.size k.size, fun i o ho hc => k.block i o (h.block i o ho hc) hc⟩
theorem Tch.below (h : Tch base p w w') (hb : base ≤ w.heap.size) : Below base w w' :=
  ⟨h.os, h.tape, h.output, h.size, fun k hk => by
    obtain ⟨o, ho⟩ := heap_some (w := w) (Nat.lt_of_lt_of_le hk hb)
    rw [h.block k o ho (.inl hk), ho]⟩
theorem Tch.of_below (h : Below w.heap.size w w') : Tch base p w w' :=
  ⟨h.os, h.tape, h.output, h.size, fun k _ ho _ => (h.block k (Array.getElem?_eq_some_iff.1 ho).1).trans ho⟩
theorem Tch.of_grown {g : Nat} {o : Obj} (h : w.grownBy w' (some g)) (hg : base ≤ g) (hf : ¬ Fo.F g) (ho : w.heap[g]? = some o) (hp : p o) : Tch base p w w' :=
  ⟨h.os, h.tape, h.output, h.size, fun k o' ho' hc => by
    refine (h.block k (Array.getElem?_eq_some_iff.1 ho').1 ?_).trans ho'
    intro e
    injection e with e
    subst e
    rw [ho] at ho'
    injection ho' with ho'
    subst ho'
    rcases hc with hc | hc | hc
    · omega
    · exact hc hp
    · exact hf hc⟩
theorem Tch.of_grown_none (h : w.grownBy w' none) : Tch base p w w' :=
  ⟨h.os, h.tape, h.output, h.size, fun k o' ho' _ => (h.block k (Array.getElem?_eq_some_iff.1 ho').1 (by simp)).trans ho'⟩
theorem Tch.alloc (h : Tch base p w w') (o : Obj) : Tch base p w (w'.alloc o) := h.trans (Tch.of_below ((Below.refl _ _).alloc (Nat.le_refl _) _))
theorem Tch.drewN (h : Tch base p w w') (n : Nat) : Tch base p w (w'.drewN n) := ⟨h.os, h.tape, h.output, h.size, h.block⟩
theorem Tch.drew (h : Tch base p w w') : Tch base p w w'.drew := ⟨h.os, h.tape, h.output, h.size, h.block⟩
theorem Tch.set (h : Tch base p w w') {g : Nat} {t : TypeId} {cs : Array Value} (hk : Blk w' g t cs) (hg : base ≤ g) (hf : ¬ Fo.F g) (hp : p (.cells cs t (0, 0))) (i : Nat) (u : Value) : Tch base p w (w'.setCell ⟨g, i, none⟩ u) :=
  h.trans (Tch.of_grown (only_setCell (World.grownBy.refl w' (some g)) (.inl rfl) u) hg hf hk hp)
theorem Blk.tch {g : Nat} {t : TypeId} {cs : Array Value} (h : Blk w g t cs) (ht : Tch base p w w') (hp : g < base ∨ ¬ p (.cells cs t (0, 0))) : Blk w' g t cs := ht.block _ _ h (hp.imp id .inl)
/-- A row's block, as an object. -/
theorem row_obj {e : TypeId} {size n : Nat} {v : Value} {xs : List Value} (h : w.ownsRow base e size v n xs) {g : Nat} (hg : v.ownBlock = some g) : ∃ cur, w.heap[g]? = some (.cells cur e (0, 0)) := by
  rcases h.2 with ⟨rfl, _⟩ | ⟨g', cap, cur, rfl, _, hh, _⟩
  · cases hg
  · cases hg
    exact ⟨cur, hh⟩
theorem row_tch {b : Nat} {e : TypeId} {size n : Nat} {v : Value} {xs : List Value} (h : w.ownsRow b e size v n xs) (ht : Tch base p w w') (hp : ∀ cur fr, ¬ p (.cells cur e fr)) : w'.ownsRow b e size v n xs := by
  refine ⟨h.1, ?_⟩
  rcases h.2 with hn | ⟨g, cap, cur, hv, hg, hh, r⟩
  · exact .inl hn
  · exact .inr ⟨g, cap, cur, hv, hg, ht.block _ _ hh (.inr (.inl (hp _ _))), r⟩
theorem Tch.of_row {b : Nat} {e : TypeId} {size n : Nat} {v : Value} {xs : List Value} (hr : w.ownsRow b e size v n xs) (h : w.grownBy w' v.ownBlock) (hb : base ≤ b) (hf : NF v) (hp : ∀ cur, p (.cells cur e (0, 0))) : Tch base p w w' := by
  cases hv : v.ownBlock with
  | none => rw [hv] at h; exact Tch.of_grown_none h
  | some g =>
    obtain ⟨cur, hh⟩ := row_obj hr hv
    rw [hv] at h
    exact Tch.of_grown h (Nat.le_trans hb (World.ownsRow.lt hr g hv).1) (hf g hv) hh (hp _)
end

/-! Rows of elements of several cells. -/
section
variable {P : Program} {w : World}
/-- Elements appended that lie somewhere. -/
theorem wp_appG {ops : Array Oper} {rest : List Oper} {o : Oper} {a : Act} {Q : Exit → Act → World → Prop} (hgd : o.guard = none) (s x : Operand) (t : TypeId)
    (ho : o.op = .call { callee := .builtin .append, args := #[s, x], argTypes := #[t, t] })
    (base : Nat) (e : TypeId) (z : Value) (size bytes : Nat) (ht : P.underlying t = some (.slice e)) (hinfo : (P.info? e).map (fun i => (i.zero, i.size, i.bytes)) = some (some z, size, bytes)) (hz1 : z.cells.size = size) (hs0 : 0 < size)
    (v : Value) (n : Nat) (xs news : List Value) (hs : a.eval s = v) (hown : w.ownsRow base e size v n xs) (hu : ∀ u ∈ news, u.oneCell' = true)
    (A : Addr) (m c : Nat) (hm : news.length = m * size) (hx : a.eval x = .slice (some A) m c) (hc : ∀ j u, news[j]? = some u → w.cell? (A.add j) = some u)
    (h63 : n + m ≤ maxLen) (hbytes : (n + m) * bytes ≤ 140737488355328) (hbase : base ≤ w.heap.size)
    (h : ∀ v' w', w'.ownsRow base e size v' (n + m) (xs ++ news) → w.grownBy w' v.ownBlock → NB w v v' → wpList P ops Q rest (a.put o.dst v') w') :
    wpList P ops Q (o :: rest) a w := by
  obtain ⟨i, hi, hz, hsize, hby⟩ := info_parts hinfo
  refine wpList_plain hgd fun K hK => ?_
  obtain ⟨v', w', hrun, h2, h3, _, h5⟩ := run_append_own_at (P := P) w base t o.type e i z size bytes ht hi hz hsize hby hz1 hs0 v n xs hown A m c news hm hc hu h63 hbytes hbase
  unfold Oper.wp execOp
  simp only [ho, resolve, invoke, builtin, Sem.run_bind, Sem.run_pure, Result.andThen_ok, List.map_toArray, List.map_cons, List.map_nil, hs, hx, hrun]
  exact hK _ _ (h v' w' h2 h3 (h5.imp id fun e => ⟨_, e, Nat.le_refl _⟩))
/-- The same at a step of a region that draws its order. -/
theorem step_appG {ops : Array Oper} {o : Oper} {a : Act} {K : Act → World → Prop} {Q : Exit → Act → World → Prop} {E : Prop} (hgd : o.guard = none) (s x : Operand) (t : TypeId)
    (ho : o.op = .call { callee := .builtin .append, args := #[s, x], argTypes := #[t, t] })
    (base : Nat) (e : TypeId) (z : Value) (size bytes : Nat) (ht : P.underlying t = some (.slice e)) (hinfo : (P.info? e).map (fun i => (i.zero, i.size, i.bytes)) = some (some z, size, bytes)) (hz1 : z.cells.size = size) (hs0 : 0 < size)
    (v : Value) (n : Nat) (xs news : List Value) (hs : a.eval s = v) (hown : w.ownsRow base e size v n xs) (hu : ∀ u ∈ news, u.oneCell' = true)
    (A : Addr) (m c : Nat) (hm : news.length = m * size) (hx : a.eval x = .slice (some A) m c) (hc : ∀ j u, news[j]? = some u → w.cell? (A.add j) = some u)
    (h63 : n + m ≤ maxLen) (hbytes : (n + m) * bytes ≤ 140737488355328) (hbase : base ≤ w.heap.size)
    (h : ∀ v' w', w'.ownsRow base e size v' (n + m) (xs ++ news) → w.grownBy w' v.ownBlock → NB w v v' → K (a.put o.dst v') w') :
    if Region.wanted o (yielded ops a.tmps) = true then Oper.wp P o a w K Q else E := by
  have hw : Region.wanted o (yielded ops a.tmps) = true := by simp [Region.wanted, hgd]
  rw [if_pos hw]
  obtain ⟨i, hi, hz, hsize, hby⟩ := info_parts hinfo
  obtain ⟨v', w', hrun, h2, h3, _, h5⟩ := run_append_own_at (P := P) w base t o.type e i z size bytes ht hi hz hsize hby hz1 hs0 v n xs hown A m c news hm hc hu h63 hbytes hbase
  unfold Oper.wp execOp
  simp only [ho, resolve, invoke, builtin, Sem.run_bind, Sem.run_pure, Result.andThen_ok, List.map_toArray, List.map_cons, List.map_nil, hs, hx, hrun]
  exact h v' w' h2 h3 (h5.imp id fun e => ⟨_, e, Nat.le_refl _⟩)

/-- The last element let go, its cell written over. -/
theorem row_pop {base g cap n : Nat} {e : TypeId} {xs : List Value} (h : w.ownsRow base e 1 (.slice (some ⟨g, 0, none⟩) (n + 1) cap) (n + 1) xs) (u : Value) :
    (w.setCell ⟨g, n, none⟩ u).ownsRow base e 1 (.slice (some ⟨g, 0, none⟩) n cap) n (xs.take n) := by
  have hl := h.1
  rcases h.2 with ⟨hv, _⟩ | ⟨g', cap', cur, hv, hg, hh, hnc, hm, hs, ht⟩
  · cases hv
  · injection hv with h1 h2 h3
    injection h1 with h1
    injection h1 with h1
    subst h1 h3
    refine ⟨by simp; omega, .inr ⟨g, cap, cur.setIfInBounds n u, rfl, hg, Blk.set_ hh n u, by omega, hm, by simp [hs], ?_⟩⟩
    rw [← ht, List.take_take, Nat.min_eq_left (by omega)]
    rw [Array.toList_setIfInBounds, List.take_set_of_le (by omega), Nat.mul_one]
end
end Go.Proofs.YtmimadkepflmlaaGreatDoor
namespace Go.Proofs.YtmimadkepflmlaaGreatDoor
open Go.RowKit Go.Maps
set_option maxRecDepth 100000
set_option linter.unusedSimpArgs false
set_option linter.unusedVariables false
set_option linter.unusedSectionVars false
variable [Tab] [Fo]

theorem one_str (w : World) (b : UInt8) : (convert 22 9 (.slice (some ⟨w.heap.size, 0, none⟩) 1 1)).run Tryz.prog (w.alloc (.cells #[.int .u8 (b.toNat : Int)] 5)) = .ok (.string ⟨#[b]⟩) (w.alloc (.cells #[.int .u8 (b.toNat : Int)] 5)) :=
  Nm.put_str [b] (ORow.lit w w.heap.size 5 #[.int .u8 (b.toNat : Int)] (Nat.le_refl _) (by simp [maxLen]))
theorem one_strD (w : World) (b : UInt8) : (convert 22 9 (.slice (some ⟨w.heap.size, 0, none⟩) 1 1)).run Tryz.prog (w.alloc (.cells #[.int .u8 (b.toNat : Int)] 5)).drew = .ok (.string ⟨#[b]⟩) (w.alloc (.cells #[.int .u8 (b.toNat : Int)] 5)).drew :=
  Nm.put_str [b] (ORow.drew (ORow.lit w w.heap.size 5 #[.int .u8 (b.toNat : Int)] (Nat.le_refl _) (by simp [maxLen])))
theorem app_one (s : ByteArray) (b : UInt8) : (s ++ (⟨#[b]⟩ : ByteArray)).data.toList = s.data.toList ++ [b] := by simp [ByteArray.append_eq, ByteArray.data_append]

theorem tblank_any (b : UInt8) (w : World) : Calls Tryz.prog 140 #[.int .u8 (b.toNat : Int)] w fun e w' => e = .returned (.bool (blankB b)) ∧ w' = w := by
  go_enter Tryz.func140, Tryz.ntmps140
  go_wp2
  all_goals
    go_ret
    refine ⟨ret_bool ?_, rfl⟩
    unfold blankB
    rw [Bool.eq_iff_iff]
    first | (simp; done) | (simp; omega) | omega

set_option maxHeartbeats 4000000 in
theorem goes_any (w : World) (m i : Nat) (s : ByteArray) (b : UInt8) (hc : w.cell? ⟨m, i, none⟩ = some (.string s)) (hl : m < w.heap.size) (hs : s.size ≤ 1000) :
    Calls Tryz.prog 138 #[.pointer (some ⟨m, i, none⟩), .int .u8 (b.toNat : Int)] w fun e w' => e = .returned (.bool (mayB1 s b)) ∧ Below w.heap.size w w' := by
  have h1 := one_str w b
  have h1d := one_strD w b
  have hM := fun w' => Nm.may_any (s ++ (⟨#[b]⟩ : ByteArray)) w' (by have h2 : (s ++ (⟨#[b]⟩ : ByteArray)).size = s.size + 1 := ByteArray.size_append; omega)
  rw [app_one] at hM
  have al : Below w.heap.size w (w.alloc (.cells #[.int .u8 (b.toNat : Int)] 5)) := (Below.refl _ _).alloc (Nat.le_refl _) _
  have ald : Below w.heap.size w (w.alloc (.cells #[.int .u8 (b.toNat : Int)] 5)).drew := below_drew al
  unfold mayB1
  go_enter Tryz.func138, Tryz.ntmps138
  go_wp2
  go_region_with (first
    | (go_at_call 54; refine (hM _).mono ?_; rintro e w' ⟨rfl, rfl⟩))
  all_goals
    go_wp2
    go_ret
    exact ⟨rfl, ald⟩

set_option maxHeartbeats 4000000 in
theorem tadd_any (w : World) (m i : Nat) (s : ByteArray) (b : UInt8) (hc : w.cell? ⟨m, i, none⟩ = some (.string s)) (hf : w.frozen? ⟨m, i, none⟩ = false) (hl : m < w.heap.size) (hs : s.size ≤ 1000) :
    Calls Tryz.prog 139 #[.pointer (some ⟨m, i, none⟩), .int .u8 (b.toNat : Int)] w fun e w' =>
      if 30 ≤ s.size then e = .returned (.int .i64 4) ∧ w' = w
      else e = .returned (.int .i64 0) ∧ Below (w.setCell ⟨m, i, none⟩ (.string (s ++ ⟨#[b]⟩))).heap.size (w.setCell ⟨m, i, none⟩ (.string (s ++ ⟨#[b]⟩))) w' := by
  by_cases h30 : 30 ≤ s.size
  case pos =>
    simp only [if_pos h30]
    go_enter Tryz.func139, Tryz.ntmps139
    go_wp2
    go_ret
    exact ⟨rfl, rfl⟩
  case neg =>
    simp only [if_neg h30]
    have hcv := one_strD w b
    have al : Below (w.setCell ⟨m, i, none⟩ (.string (s ++ ⟨#[b]⟩))).heap.size (w.setCell ⟨m, i, none⟩ (.string (s ++ ⟨#[b]⟩))) ((w.setCell ⟨m, i, none⟩ (.string (s ++ ⟨#[b]⟩))).alloc (.cells #[.int .u8 (b.toNat : Int)] 5)).drew := below_drew ((Below.refl _ _).alloc (Nat.le_refl _) _)
    have AL := Lib.hid al
    clear al
    go_enter Tryz.func139, Tryz.ntmps139
    go_wp2
    go_region
    go_wp2
    go_ret
    exact ⟨rfl, AL.out⟩

set_option maxHeartbeats 4000000 in
theorem tend_any (w : World) (m i : Nat) (s : ByteArray) (hc : w.cell? ⟨m, i, none⟩ = some (.string s)) (hf : w.frozen? ⟨m, i, none⟩ = false) (hl : m < w.heap.size) (hs : s.size ≤ 1000) (hw : Nm.StdW (w.setCell ⟨m, i, none⟩ (.string ⟨#[]⟩))) :
    Calls Tryz.prog 142 #[.pointer (some ⟨m, i, none⟩)] w fun e w' =>
      e = .returned (.tuple #[.string (endS s), .int .i64 (endC s)]) ∧ Below (w.setCell ⟨m, i, none⟩ (.string ⟨#[]⟩)).heap.size (w.setCell ⟨m, i, none⟩ (.string ⟨#[]⟩)) w' := by
  obtain ⟨W, hW⟩ : ∃ W, w.setCell ⟨m, i, none⟩ (.string ⟨#[]⟩) = W := ⟨_, rfl⟩
  have hMay := Nm.may_any s (w.setCell ⟨m, i, none⟩ (.string ⟨#[]⟩)) (by omega)
  have hRd := Nm.read_any s (w.setCell ⟨m, i, none⟩ (.string ⟨#[]⟩)) hw (by omega)
  clear hw
  have HR := Lib.hid (Below.refl (w.setCell ⟨m, i, none⟩ (.string ⟨#[]⟩)).heap.size (w.setCell ⟨m, i, none⟩ (.string ⟨#[]⟩)))
  unfold endS endC
  cases hi : Nm.isB s.data.toList with
  | false =>
    rw [if_neg (by decide), if_neg (by decide)]
    rw [hi] at hMay
    clear hi hRd hW
    go_enter Tryz.func142, Tryz.ntmps142
    go_wp2_with fail
    refine hMay.mono ?_
    rintro e w' ⟨rfl, rfl⟩
    go_wp2
    go_ret2
    exact ⟨rfl, HR.out⟩
  | true =>
    rw [if_pos rfl, if_pos rfl]
    rw [hi] at hMay
    generalize Nm.readC s.data.toList = c at *
    generalize Nm.readS s.data.toList = f at *
    clear hi hW
    go_enter Tryz.func142, Tryz.ntmps142
    go_wp2_with fail
    refine hMay.mono ?_
    rintro e w' ⟨rfl, rfl⟩
    go_wp2_with fail
    refine hRd.mono ?_
    rintro e w1 ⟨rfl, hb1⟩
    go_wp2
    go_ret2
    exact ⟨rfl, hb1⟩
end Go.Proofs.YtmimadkepflmlaaGreatDoor
namespace Go
/-- As Q; by a goto to a label of c: what stands behind the label, with one jump fewer left. -/
def Exit.fwd (P : Program) (c : Code) (Q : Exit → Act → World → Prop) : Nat → Exit → Act → World → Prop
  | 0, .goto _, _, _ => False
  | n + 1, .goto l, a, w => ∃ rest, findLabel c l = some rest ∧ rest.wp P (Exit.fwd P c Q n) a w
  | _, e, a, w => Q e a w

section
variable {P : Program} {a : Act} {w : World} {Q : Exit → Act → World → Prop} {c : Code}
theorem Exit.fwd_normal (n : Nat) : Exit.fwd P c Q n .normal a w = Q .normal a w := by cases n <;> rfl
theorem Exit.fwd_exit (n : Nat) (id : Nat) : Exit.fwd P c Q n (.exit id) a w = Q (.exit id) a w := by cases n <;> rfl
theorem Exit.fwd_ret (n : Nat) : Exit.fwd P c Q n .ret a w = Q .ret a w := by cases n <;> rfl
theorem Exit.fwd_panic (n : Nat) (ch : List PanicEntry) : Exit.fwd P c Q n (.panic ch) a w = Q (.panic ch) a w := by cases n <;> rfl
theorem Exit.fwd_goto (n l : Nat) (rest : Code) (h : findLabel c l = some rest) (k : rest.wp P (Exit.fwd P c Q n) a w) : Exit.fwd P c Q (n + 1) (.goto l) a w := ⟨rest, h, k⟩

theorem wp_scope_fwd (n : Nat) (first : c.wp P (Exit.fwd P c Q n) a w) : (Code.scope c).wp P Q a w := by
  intro b k cs
  have key : ∀ n (body : Code) a w, body.wp P (Exit.fwd P c Q n) a w → ∃ e a' w', Q e a' w' ∧ Arrives P (lone (b.at a (.code body :: .inScope c :: k)) cs w) b k cs e a' w' := by
    intro n
    induction n with
    | zero =>
      intro body a w h
      obtain ⟨e, a₁, w₁, hq, harr⟩ := h b (.inScope c :: k) cs
      cases e with
      | normal => exact ⟨.normal, a₁, w₁, hq, Steps.trans harr (.one step_inScope)⟩
      | exit id => exact ⟨.exit id, a₁, w₁, hq, fun k' hk => harr k' (by simp [exitTo, hk])⟩
      | goto l' => exact hq.elim
      | ret => exact ⟨_, a₁, w₁, hq, harr⟩
      | panic ch => exact ⟨_, a₁, w₁, hq, harr⟩
      | outgrown => exact ⟨_, a₁, w₁, hq, harr⟩
    | succ n ih =>
      intro body a w h
      obtain ⟨e, a₁, w₁, hq, harr⟩ := h b (.inScope c :: k) cs
      cases e with
      | normal => exact ⟨.normal, a₁, w₁, hq, Steps.trans harr (.one step_inScope)⟩
      | exit id => exact ⟨.exit id, a₁, w₁, hq, fun k' hk => harr k' (by simp [exitTo, hk])⟩
      | goto l' =>
        obtain ⟨rest, hf, hr⟩ := hq
        have hg : gotoIn l' (.inScope c :: k) = some (.code rest :: .inScope c :: k) := by simp [gotoIn, hf]
        obtain ⟨e₂, a₂, w₂, hq₂, harr₂⟩ := ih rest a₁ w₁ hr
        exact ⟨e₂, a₂, w₂, hq₂, .of_steps (harr _ hg) harr₂⟩
      | ret => exact ⟨_, a₁, w₁, hq, harr⟩
      | panic ch => exact ⟨_, a₁, w₁, hq, harr⟩
      | outgrown => exact ⟨_, a₁, w₁, hq, harr⟩
  obtain ⟨e, a₁, w₁, hq, harr⟩ := key n c a w first
  cases e with
  | normal => exact ⟨.normal, a₁, w₁, hq, .head step_scope harr⟩
  | exit id => exact ⟨.exit id, a₁, w₁, hq, fun k' hk => .head step_scope (harr k' hk)⟩
  | goto l' => exact ⟨.goto l', a₁, w₁, hq, fun k' hk => .head step_scope (harr k' hk)⟩
  | ret => exact ⟨_, a₁, w₁, hq, .of_steps (.one step_scope) harr⟩
  | panic ch => exact ⟨_, a₁, w₁, hq, .of_steps (.one step_scope) harr⟩
  | outgrown => exact ⟨_, a₁, w₁, hq, .of_steps (.one step_scope) harr⟩
end
end Go
namespace Go.Proofs.YtmimadkepflmlaaGreatDoor
open Go.RowKit

/-- A Scan at block g: what is left, and the bounds of the next byte. -/
def ScanAt (w : World) (g : Nat) (l lo hi : Int) : Prop := Blk w g 88 #[.int .i64 l, .int .u8 lo, .int .u8 hi]

/-- What a step leaves. -/
def Stepped (w : World) (g : Nat) (l lo hi b : Int) (e : Ending) (w' : World) : Prop :=
  e = .returned (.bool (stOk l lo hi b)) ∧ w.grownBy w' (some g) ∧ (if stOk l lo hi b = true then ScanAt w' g (stL l b) (stLo l b) (stHi l b) else ScanAt w' g l lo hi)

theorem new_any (w : World) : Calls Tryz.prog 26 #[] w fun e w' => e = .returned (.pointer (some ⟨w.heap.size, 0, none⟩)) ∧ w' = w.alloc (.cells #[.int .i64 0, .int .u8 128, .int .u8 191] 88) := by
  go_enter Tryz.func26, Tryz.ntmps26
  go_wp2
  go_ret
  exact ⟨rfl, rfl⟩

theorem whole_any (w : World) (g : Nat) (l lo hi : Int) (hs : ScanAt w g l lo hi) :
    Calls Tryz.prog 37 #[.pointer (some ⟨g, 0, none⟩)] w fun e w' => e = .returned (.bool (decide (l = 0))) ∧ w = w' := by
  have hc : w.cell? ⟨g, 0, none⟩ = some (.int .i64 l) := hs.cell 0
  go_enter Tryz.func37, Tryz.ntmps37
  go_wp2
  go_ret
  refine ⟨ret_bool ?_, rfl⟩
  rw [Bool.eq_iff_iff]; simp

theorem stepped_no {w : World} {g : Nat} {l lo hi b : Int} {o : Obj} (hs : ScanAt w g l lo hi) (hk : stOk l lo hi b = false) : Stepped w g l lo hi b (.returned (.bool false)) (w.alloc o) := by
  refine ⟨by rw [hk], only_alloc (World.grownBy.refl _ _) _, ?_⟩
  rw [hk, if_neg (by decide)]
  exact Blk.alloc hs _
theorem stepped_yes {w : World} {g : Nat} {l lo hi b : Int} {l' lo' hi' : Int} {o : Obj} (hs : ScanAt w g l lo hi) (hk : stOk l lo hi b = true) (h1 : l' = stL l b) (h2 : lo' = stLo l b) (h3 : hi' = stHi l b) :
    Stepped w g l lo hi b (.returned (.bool true)) ((((w.setCell ⟨g, 0, none⟩ (.int .i64 l')).setCell ⟨g, 1, none⟩ (.int .u8 lo')).setCell ⟨g, 2, none⟩ (.int .u8 hi')).alloc o) := by
  subst h1 h2 h3
  have g1 := only_setCell (p := ⟨g, 0, none⟩) (World.grownBy.refl w (some g)) (.inl rfl) (.int .i64 (stL l b))
  have g2 := only_setCell (p := ⟨g, 1, none⟩) g1 (.inl rfl) (.int .u8 (stLo l b))
  have g3 := only_setCell (p := ⟨g, 2, none⟩) g2 (.inl rfl) (.int .u8 (stHi l b))
  have b1 := Blk.set_ hs 0 (.int .i64 (stL l b))
  have b2 := Blk.set_ b1 1 (.int .u8 (stLo l b))
  have b3 := Blk.set_ b2 2 (.int .u8 (stHi l b))
  refine ⟨by rw [hk], only_alloc g3 _, ?_⟩
  rw [hk, if_pos rfl]
  exact Blk.alloc b3 o
set_option maxHeartbeats 400000 in
theorem step_tail (w : World) (g : Nat) (l lo hi b : Int) (hs : ScanAt w g l lo hi) (hl : 0 < l) (hl3 : l ≤ 3) :
    Calls Tryz.prog 36 #[.pointer (some ⟨g, 0, none⟩), .int .u8 b] w (Stepped w g l lo hi b) := by
  have c0 : w.cell? ⟨g, 0, none⟩ = some (.int .i64 l) := hs.cell 0
  have c1 : w.cell? ⟨g, 1, none⟩ = some (.int .u8 lo) := hs.cell 1
  have c2 : w.cell? ⟨g, 2, none⟩ = some (.int .u8 hi) := hs.cell 2
  have f0 := hs.frozen 0
  have f1 := hs.frozen 1
  have f2 := hs.frozen 2
  have hlt := hs.lt
  go_enter Tryz.func36, Tryz.ntmps36
  go_wp2
  refine wp_scope_fwd 2 ?_
  generalize hQ : Exit.fwd _ _ _ 2 = Q2
  go_wp2
  go_step3
  show Q2 _ _ _
  rw [← hQ]
  refine Exit.fwd_goto 1 _ _ rfl ?_
  generalize hQ1 : Exit.fwd _ _ _ 1 = Q1
  go_wp2
  · rw [← hQ1, Exit.fwd_ret]
    go_ret
    have hk : stOk l lo hi b = false := by unfold stOk; rw [if_pos hl]; simp; omega
    exact stepped_no hs hk
  · go_step3
    show Q1 _ _ _
    rw [← hQ1]
    refine Exit.fwd_goto 0 _ _ rfl ?_
    generalize hQ0 : Exit.fwd _ _ _ 0 = Q0
    go_wp2
    rw [← hQ0, Exit.fwd_ret]
    go_ret
    have hk : stOk l lo hi b = true := by unfold stOk; rw [if_pos hl]; simp; omega
    exact stepped_yes hs hk (by unfold stL; rw [if_pos hl]) (by unfold stLo; rw [if_pos hl]) (by unfold stHi; rw [if_pos hl])
  · rw [← hQ1, Exit.fwd_ret]
    go_ret
    have hk : stOk l lo hi b = false := by unfold stOk; rw [if_pos hl]; simp; omega
    exact stepped_no hs hk

set_option maxHeartbeats 1000000 in
theorem step_lead (w : World) (g : Nat) (lo hi b : Int) (hs : ScanAt w g 0 lo hi) (hb0 : 0 ≤ b) (hb1 : b ≤ 255) :
    Calls Tryz.prog 36 #[.pointer (some ⟨g, 0, none⟩), .int .u8 b] w (Stepped w g 0 lo hi b) := by
  have c0 : w.cell? ⟨g, 0, none⟩ = some (.int .i64 0) := hs.cell 0
  have c1 : w.cell? ⟨g, 1, none⟩ = some (.int .u8 lo) := hs.cell 1
  have c2 : w.cell? ⟨g, 2, none⟩ = some (.int .u8 hi) := hs.cell 2
  have f0 := hs.frozen 0
  have f1 := hs.frozen 1
  have f2 := hs.frozen 2
  have hlt := hs.lt
  go_enter Tryz.func36, Tryz.ntmps36
  go_wp2
  refine wp_scope_fwd 2 ?_
  generalize hQ : Exit.fwd _ _ _ 2 = Q2
  go_wp2
  all_goals first
    | (rw [← hQ, Exit.fwd_ret]; go_ret; exact stepped_no hs (by simp [stOk]; omega))
    | skip
  all_goals
    go_step3
    show Q2 _ _ _
    rw [← hQ]
    refine Exit.fwd_goto 1 _ _ rfl ?_
    generalize hQ1 : Exit.fwd _ _ _ 1 = Q1
  all_goals go_wp2
  all_goals try (go_step3; go_wp2)
  all_goals try (go_step3; go_wp2)
  all_goals try (go_step3; go_wp2)
  all_goals (rw [← hQ1, Exit.fwd_ret]; go_ret)
  all_goals refine stepped_yes hs (by simp [stOk]; omega) ?_ ?_ ?_
  all_goals simp only [stL, stLo, stHi]
  all_goals clear hQ1 c0 c1 c2 f0 f1 f2 hs
  all_goals try simp only [beq_iff_eq, beq_eq_false_iff_ne] at *
  all_goals rw [if_neg (by omega)]
  all_goals repeat (first | rw [if_pos (by omega)] | rw [if_neg (by omega)])

theorem step_any (w : World) (g : Nat) (l lo hi b : Int) (hs : ScanAt w g l lo hi) (hl0 : 0 ≤ l) (hl3 : l ≤ 3) (hb0 : 0 ≤ b) (hb1 : b ≤ 255) :
    Calls Tryz.prog 36 #[.pointer (some ⟨g, 0, none⟩), .int .u8 b] w (Stepped w g l lo hi b) := by
  rcases Int.lt_or_eq_of_le hl0 with h | h
  · exact step_tail w g l lo hi b hs h hl3
  · subst h
    exact step_lead w g lo hi b hs hb0 hb1
end Go.Proofs.YtmimadkepflmlaaGreatDoor
