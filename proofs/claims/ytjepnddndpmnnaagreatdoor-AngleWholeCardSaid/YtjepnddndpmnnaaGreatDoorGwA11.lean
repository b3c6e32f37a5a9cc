/-
  What a call turns, told by the kind of the objects: every block below a bound, and every block of another kind, lies as it lay.
  events: formed: whether Text and Val are allowed for a kind.
-/
import Derived.Test.YtjepnddndpmnnaaGreatDoorGwA04
import Derived.Test.YtjepnddndpmnnaaGreatDoorGwA10
namespace Go.Proofs.YtjepnddndpmnnaaGreatDoor
open Go.RowKit

set_option linter.unusedSectionVars false
/-- Blocks that are not the object's own, though they lie above its base. -/
class Fo where
  F : Nat → Prop
  lim : Nat
  ok : ∀ k, F k → k < lim
  tk : Option Nat
/-- No such blocks. -/
@[reducible] def Fo.no : Fo := ⟨fun _ => False, 0, fun _ h => h.elim, none⟩
/-- The same foreign blocks; nothing was taken yet. -/
@[reducible] def Fo.nt (fo : Fo) : Fo := ⟨fo.F, fo.lim, fo.ok, none⟩
variable [Fo]
def NF (v : Value) : Prop := ∀ g, v.ownBlock = some g → ¬ Fo.F g
/-- The block of a row that was appended to: its own, or new. -/
def NB (w : World) (v v' : Value) : Prop := v'.ownBlock = v.ownBlock ∨ ∃ k, v'.ownBlock = some k ∧ w.heap.size ≤ k
theorem nf_new {k : Nat} (h : Fo.lim ≤ k) : ¬ Fo.F k := fun hc => by have := Fo.ok k hc; omega
theorem NF.nil {n c : Nat} : NF (.slice none n c) := fun g h => by cases h
theorem NF.nb {w : World} {v v' : Value} (h : NF v) (hb : NB w v v') (hl : Fo.lim ≤ w.heap.size) : NF v' := by
  rcases hb with e | ⟨k, e, hk⟩
  · intro g hg; exact h g (e ▸ hg)
  · intro g hg
    rw [e] at hg
    injection hg with hg
    subst hg
    exact nf_new (Nat.le_trans hl hk)
theorem NF.slice {g n c m d : Nat} (h : NF (.slice (some ⟨g, 0, none⟩) n c)) : NF (.slice (some ⟨g, 0, none⟩) m d) := h
structure Tch (base : Nat) (p : Obj → Prop) (w w' : World) : Prop where
  os : w'.os = w.os
  tape : w'.tape = w.tape
  output : w'.output = w.output
  size : w.heap.size ≤ w'.heap.size
  block : ∀ k o, w.heap[k]? = some o → (k < base ∨ ¬ p o ∨ Fo.F k) → w'.heap[k]? = some o

section
variable {base : Nat} {p : Obj → Prop} {w w' w'' : World}
theorem heap_some {k : Nat} (h : k < w.heap.size) : ∃ b, w.heap[k]? = some b := ⟨w.heap[k], Array.getElem?_eq_getElem h⟩
theorem Tch.refl (base : Nat) (p : Obj → Prop) (w : World) : Tch base p w w := ⟨rfl, rfl, rfl, Nat.le_refl _, fun _ _ h _ => h⟩
theorem Tch.trans (h : Tch base p w w') (k : Tch base p w' w'') : Tch base p w w'' :=
  ⟨k.os.trans h.os, k.tape.trans h.tape, k.output.trans h.output, Nat.le_trans h.size k.size, fun i o ho hc => k.block i o (h.block i o ho hc) hc⟩
theorem Tch.below (h : Tch base p w w') (hb : base ≤ w.heap.size) : Below base w w' :=
  ⟨h.os, h.tape, h.output, h.size, fun k hk => by
    obtain ⟨o, ho⟩ := heap_some (w := w) (Nat.lt_of_lt_of_le hk hb)
    rw [h.block k o ho (.inl hk), ho]⟩
theorem Tch.of_below (h : Below w.heap.size w w') : Tch base p w w' :=
  ⟨h.os, h.tape, h.output, h.size, fun k _ ho _ => (h.block k (Array.getElem?_eq_some_iff.1 ho).1).trans ho⟩
theorem Tch.of_grown {g : Nat} {o : Obj} (h : w.grownBy w' (some g)) (hg : base ≤ g) (hf : ¬ Fo.F g) (ho : w.heap[g]? = some o) (hp : p o) : Tch base p w w' :=
  ⟨h.os, h.tape, h.output, h.size, fun k o' ho' hc => by
    refine (h.block k (Array.getElem?_eq_some_iff.1 ho').1 ?_).trans ho'
    intro e
    injection e with e
    subst e
    rw [ho] at ho'
    injection ho' with ho'
    subst ho'
    rcases hc with hc | hc | hc
    · omega
    · exact hc hp
    · exact hf hc⟩
theorem Tch.of_grown_none (h : w.grownBy w' none) : Tch base p w w' :=
  ⟨h.os, h.tape, h.output, h.size, fun k o' ho' _ => (h.block k (Array.getElem?_eq_some_iff.1 ho').1 (by simp)).trans ho'⟩
theorem Tch.alloc (h : Tch base p w w') (o : Obj) : Tch base p w (w'.alloc o) := h.trans (Tch.of_below ((Below.refl _ _).alloc (Nat.le_refl _) _))
theorem Tch.drewN (h : Tch base p w w') (n : Nat) : Tch base p w (w'.drewN n) := ⟨h.os, h.tape, h.output, h.size, h.block⟩
theorem Tch.drew (h : Tch base p w w') : Tch base p w w'.drew := ⟨h.os, h.tape, h.output, h.size, h.block⟩
theorem Tch.set (h : Tch base p w w') {g : Nat} {t : TypeId} {cs : Array Value} (hk : Blk w' g t cs) (hg : base ≤ g) (hf : ¬ Fo.F g) (hp : p (.cells cs t (0, 0))) (i : Nat) (u : Value) : Tch base p w (w'.setCell ⟨g, i, none⟩ u) :=
  h.trans (Tch.of_grown (only_setCell (World.grownBy.refl w' (some g)) (.inl rfl) u) hg hf hk hp)
theorem Blk.tch {g : Nat} {t : TypeId} {cs : Array Value} (h : Blk w g t cs) (ht : Tch base p w w') (hp : g < base ∨ ¬ p (.cells cs t (0, 0))) : Blk w' g t cs := ht.block _ _ h (hp.imp id .inl)
/-- A row's block, as an object. -/
theorem row_obj {e : TypeId} {size n : Nat} {v : Value} {xs : List Value} (h : w.ownsRow base e size v n xs) {g : Nat} (hg : v.ownBlock = some g) : ∃ cur, w.heap[g]? = some (.cells cur e (0, 0)) := by
  rcases h.2 with ⟨rfl, _⟩ | ⟨g', cap, cur, rfl, _, hh, _⟩
  · cases hg
  · cases hg
    exact ⟨cur, hh⟩
theorem row_tch {b : Nat} {e : TypeId} {size n : Nat} {v : Value} {xs : List Value} (h : w.ownsRow b e size v n xs) (ht : Tch base p w w') (hp : ∀ cur fr, ¬ p (.cells cur e fr)) : w'.ownsRow b e size v n xs := by
  refine ⟨h.1, ?_⟩
  rcases h.2 with hn | ⟨g, cap, cur, hv, hg, hh, r⟩
  · exact .inl hn
  · exact .inr ⟨g, cap, cur, hv, hg, ht.block _ _ hh (.inr (.inl (hp _ _))), r⟩
theorem Tch.of_row {b : Nat} {e : TypeId} {size n : Nat} {v : Value} {xs : List Value} (hr : w.ownsRow b e size v n xs) (h : w.grownBy w' v.ownBlock) (hb : base ≤ b) (hf : NF v) (hp : ∀ cur, p (.cells cur e (0, 0))) : Tch base p w w' := by
  cases hv : v.ownBlock with
  | none => rw [hv] at h; exact Tch.of_grown_none h
  | some g =>
    obtain ⟨cur, hh⟩ := row_obj hr hv
    rw [hv] at h
    exact Tch.of_grown h (Nat.le_trans hb (World.ownsRow.lt hr g hv).1) (hf g hv) hh (hp _)
end

/-! Rows of elements of several cells. -/
section
variable {P : Program} {w : World}
/-- Elements appended that lie somewhere. -/
theorem wp_appG {ops : Array Oper} {rest : List Oper} {o : Oper} {a : Act} {Q : Exit → Act → World → Prop} (hgd : o.guard = none) (s x : Operand) (t : TypeId)
    (ho : o.op = .call { callee := .builtin .append, args := #[s, x], argTypes := #[t, t] })
    (base : Nat) (e : TypeId) (z : Value) (size bytes : Nat) (ht : P.underlying t = some (.slice e)) (hinfo : (P.info? e).map (fun i => (i.zero, i.size, i.bytes)) = some (some z, size, bytes)) (hz1 : z.cells.size = size) (hs0 : 0 < size)
    (v : Value) (n : Nat) (xs news : List Value) (hs : a.eval s = v) (hown : w.ownsRow base e size v n xs) (hu : ∀ u ∈ news, u.oneCell' = true)
    (A : Addr) (m c : Nat) (hm : news.length = m * size) (hx : a.eval x = .slice (some A) m c) (hc : ∀ j u, news[j]? = some u → w.cell? (A.add j) = some u)
    (h63 : n + m ≤ maxLen) (hbytes : (n + m) * bytes ≤ 140737488355328) (hbase : base ≤ w.heap.size)
    (h : ∀ v' w', w'.ownsRow base e size v' (n + m) (xs ++ news) → w.grownBy w' v.ownBlock → NB w v v' → wpList P ops Q rest (a.put o.dst v') w') :
    wpList P ops Q (o :: rest) a w := by
  obtain ⟨i, hi, hz, hsize, hby⟩ := info_parts hinfo
  refine wpList_plain hgd fun K hK => ?_
  obtain ⟨v', w', hrun, h2, h3, _, h5⟩ := run_append_own_at (P := P) w base t o.type e i z size bytes ht hi hz hsize hby hz1 hs0 v n xs hown A m c news hm hc hu h63 hbytes hbase
  unfold Oper.wp execOp
  simp only [ho, resolve, invoke, builtin, Sem.run_bind, Sem.run_pure, Result.andThen_ok, List.map_toArray, List.map_cons, List.map_nil, hs, hx, hrun]
  exact hK _ _ (h v' w' h2 h3 (h5.imp id fun e => ⟨_, e, Nat.le_refl _⟩))
/-- The same at a step of a region that draws its order. -/
theorem step_appG {ops : Array Oper} {o : Oper} {a : Act} {K : Act → World → Prop} {Q : Exit → Act → World → Prop} {E : Prop} (hgd : o.guard = none) (s x : Operand) (t : TypeId)
    (ho : o.op = .call { callee := .builtin .append, args := #[s, x], argTypes := #[t, t] })
    (base : Nat) (e : TypeId) (z : Value) (size bytes : Nat) (ht : P.underlying t = some (.slice e)) (hinfo : (P.info? e).map (fun i => (i.zero, i.size, i.bytes)) = some (some z, size, bytes)) (hz1 : z.cells.size = size) (hs0 : 0 < size)
    (v : Value) (n : Nat) (xs news : List Value) (hs : a.eval s = v) (hown : w.ownsRow base e size v n xs) (hu : ∀ u ∈ news, u.oneCell' = true)
    (A : Addr) (m c : Nat) (hm : news.length = m * size) (hx : a.eval x = .slice (some A) m c) (hc : ∀ j u, news[j]? = some u → w.cell? (A.add j) = some u)
    (h63 : n + m ≤ maxLen) (hbytes : (n + m) * bytes ≤ 140737488355328) (hbase : base ≤ w.heap.size)
    (h : ∀ v' w', w'.ownsRow base e size v' (n + m) (xs ++ news) → w.grownBy w' v.ownBlock → NB w v v' → K (a.put o.dst v') w') :
    if Region.wanted o (yielded ops a.tmps) = true then Oper.wp P o a w K Q else E := by
  have hw : Region.wanted o (yielded ops a.tmps) = true := by simp [Region.wanted, hgd]
  rw [if_pos hw]
  obtain ⟨i, hi, hz, hsize, hby⟩ := info_parts hinfo
  obtain ⟨v', w', hrun, h2, h3, _, h5⟩ := run_append_own_at (P := P) w base t o.type e i z size bytes ht hi hz hsize hby hz1 hs0 v n xs hown A m c news hm hc hu h63 hbytes hbase
  unfold Oper.wp execOp
  simp only [ho, resolve, invoke, builtin, Sem.run_bind, Sem.run_pure, Result.andThen_ok, List.map_toArray, List.map_cons, List.map_nil, hs, hx, hrun]
  exact h v' w' h2 h3 (h5.imp id fun e => ⟨_, e, Nat.le_refl _⟩)

/-- The last element let go, its cell written over. -/
theorem row_pop {base g cap n : Nat} {e : TypeId} {xs : List Value} (h : w.ownsRow base e 1 (.slice (some ⟨g, 0, none⟩) (n + 1) cap) (n + 1) xs) (u : Value) :
    (w.setCell ⟨g, n, none⟩ u).ownsRow base e 1 (.slice (some ⟨g, 0, none⟩) n cap) n (xs.take n) := by
  have hl := h.1
  rcases h.2 with ⟨hv, _⟩ | ⟨g', cap', cur, hv, hg, hh, hnc, hm, hs, ht⟩
  · cases hv
  · injection hv with h1 h2 h3
    injection h1 with h1
    injection h1 with h1
    subst h1 h3
    refine ⟨by simp; omega, .inr ⟨g, cap, cur.setIfInBounds n u, rfl, hg, Blk.set_ hh n u, by omega, hm, by simp [hs], ?_⟩⟩
    rw [← ht, List.take_take, Nat.min_eq_left (by omega)]
    rw [Array.toList_setIfInBounds, List.take_set_of_le (by omega), Nat.mul_one]
end
end Go.Proofs.YtjepnddndpmnnaaGreatDoor
namespace Go.Proofs.YtjepnddndpmnnaaGreatDoor
open Go.RowKit
set_option maxRecDepth 100000
set_option linter.unusedSectionVars false
variable [Tab] [Fo]

theorem emptyT_nil : emptyT ⟨#[]⟩ = true := rfl
theorem emptyT_no {s : ByteArray} (h : ¬ s.size = 0) : emptyT s = false := by
  unfold emptyT
  rw [decide_eq_false_iff_not]
  intro e
  apply h
  have := congrArg List.length e
  simpa using this
theorem str_nil {s : ByteArray} (h : s.size = 0) : s = ⟨#[]⟩ := ByteArray.ext (Array.eq_empty_of_size_eq_zero h)
def evV (x : Ev) : Value := .agg #[.int .i64 x.k, .string x.t, .string x.v]
/-- An event, in its own place. -/
def EvAt (w : World) (b : Nat) (x : Ev) : Prop := Blk w b 38 #[.int .i64 x.k, .string x.t, .string x.v]
theorem EvAt.new (w : World) (x : Ev) : EvAt (w.alloc (.cells #[.int .i64 x.k, .string x.t, .string x.v] 38)) w.heap.size x := Blk.new w _ _
theorem EvAt.below {w w' : World} {b : Nat} {x : Ev} (h : EvAt w b x) (hb : Below w.heap.size w w') : EvAt w' b x := Blk.below h hb (Blk.lt h)
theorem EvAt.drewN {w : World} {b : Nat} {x : Ev} (h : EvAt w b x) (n : Nat) : EvAt (w.drewN n) b x := h
theorem EvAt.c0 {w : World} {b : Nat} {x : Ev} (h : EvAt w b x) : w.cell? ⟨b, 0, none⟩ = some (.int .i64 x.k) := Blk.cell h 0
theorem EvAt.c1 {w : World} {b : Nat} {x : Ev} (h : EvAt w b x) : w.cell? ⟨b, 1, none⟩ = some (.string x.t) := Blk.cell h 1
theorem EvAt.c2 {w : World} {b : Nat} {x : Ev} (h : EvAt w b x) : w.cell? ⟨b, 2, none⟩ = some (.string x.v) := Blk.cell h 2

/-- What formed tells. -/
def FPost (x : Ev) (w : World) (e : Ending) (w' : World) : Prop := e = .returned (.bool (formedB x)) ∧ Below w.heap.size w w'

section
variable (x : Ev) (w : World)
set_option maxHeartbeats 4000000 in
theorem formed_bare (h : bareK x.k = true) : Calls Tryz.prog 19 #[evV x] w (FPost x w) := by
  have hF : formedB x = (emptyT x.t && emptyT x.v) := by unfold formedB; rw [if_pos h]
  unfold FPost evV
  rw [hF]
  clear hF
  obtain ⟨k, t, v⟩ := x
  have hbel := (Below.refl w.heap.size w).alloc (Nat.le_refl _) (.cells #[.int .i64 k, .string t, .string v] 38)
  simp only at h ⊢
  unfold bareK at h
  rw [decide_eq_true_iff] at h
  by_cases ht : t.size = 0
  · obtain rfl := str_nil ht
    rw [emptyT_nil, Bool.true_and]
    by_cases hv : v.size = 0
    · obtain rfl := str_nil hv
      rw [emptyT_nil]
      rcases h with rfl | rfl | rfl | rfl | rfl | rfl
      all_goals
        go_enter Tryz.func19, Tryz.ntmps19
        go_wp2
        go_ret
        exact ⟨rfl, hbel⟩
    · have n1 := str_ne hv
      have n2 := str_ne2 hv
      rw [emptyT_no hv]
      rcases h with rfl | rfl | rfl | rfl | rfl | rfl
      all_goals
        go_enter Tryz.func19, Tryz.ntmps19
        go_wp2
        go_ret
        exact ⟨rfl, hbel⟩
  · have n1 := str_ne ht
    have n2 := str_ne2 ht
    rw [emptyT_no ht, Bool.false_and]
    rcases h with rfl | rfl | rfl | rfl | rfl | rfl
    all_goals
      go_enter Tryz.func19, Tryz.ntmps19
      go_wp2
      go_ret
      exact ⟨rfl, hbel⟩

theorem str_eqT {s c : ByteArray} (h : ¬ s.data.toList = c.data.toList) : (s.toList == c.toList) = false ∧ ¬ s.toList = c.toList := str_diff (fun e => h (by rw [e]))

set_option maxHeartbeats 4000000 in
theorem formed_bool (h : x.k = 2) : Calls Tryz.prog 19 #[evV x] w (FPost x w) := by
  have hF : formedB x = (emptyT x.v && boolL x.t.data.toList) := by unfold formedB; rw [h, if_neg (by decide), if_pos rfl]
  unfold FPost evV
  rw [hF]
  clear hF
  obtain ⟨k, t, v⟩ := x
  have hbel := (Below.refl w.heap.size w).alloc (Nat.le_refl _) (.cells #[.int .i64 2, .string t, .string v] 38)
  simp only at h ⊢
  subst h
  by_cases hv : v.size = 0
  · obtain rfl := str_nil hv
    rw [emptyT_nil, Bool.true_and]
    by_cases h1 : t = ⟨#[116, 114, 117, 101]⟩
    · subst h1
      go_enter Tryz.func19, Tryz.ntmps19
      go_wp2
      go_ret
      exact ⟨rfl, hbel⟩
    · by_cases h2 : t = ⟨#[102, 97, 108, 115, 101]⟩
      · subst h2
        go_enter Tryz.func19, Tryz.ntmps19
        go_wp2
        go_ret
        exact ⟨rfl, hbel⟩
      · have e1 : boolL t.data.toList = false := by
          unfold boolL
          rw [decide_eq_false (fun e => h1 (ByteArray.ext (by have := congrArg List.toArray e; simpa using this))), decide_eq_false (fun e => h2 (ByteArray.ext (by have := congrArg List.toArray e; simpa using this)))]
          rfl
        rw [e1]
        obtain ⟨m1, m2⟩ := str_diff h1
        obtain ⟨m3, m4⟩ := str_diff h2
        simp at m1 m2 m3 m4
        clear h1 h2 e1
        go_enter Tryz.func19, Tryz.ntmps19
        go_wp2
        go_ret
        exact ⟨rfl, hbel⟩
  · have n1 := str_ne hv
    have n2 := str_ne2 hv
    rw [emptyT_no hv, Bool.false_and]
    go_enter Tryz.func19, Tryz.ntmps19
    go_wp2
    go_ret
    exact ⟨rfl, hbel⟩

set_option maxHeartbeats 4000000 in
theorem formed_num (h : x.k = 3) (hw : Nm.StdW w) (hs : x.t.size ≤ 140737488355328) : Calls Tryz.prog 19 #[evV x] w (FPost x w) := by
  have hF : formedB x = (emptyT x.v && normL x.t.data.toList) := by unfold formedB; rw [h, if_neg (by decide), if_neg (by decide), if_pos rfl]
  unfold FPost evV
  rw [hF]
  clear hF
  obtain ⟨k, t, v⟩ := x
  have hbel := (Below.refl w.heap.size w).alloc (Nat.le_refl _) (.cells #[.int .i64 3, .string t, .string v] 38)
  simp only at h hs ⊢
  subst h
  by_cases hv : v.size = 0
  · obtain rfl := str_nil hv
    rw [emptyT_nil, Bool.true_and]
    go_enter Tryz.func19, Tryz.ntmps19
    go_wp2_with (first
      | (go_at_call 30; refine (normal_any t _ (hw.below ((Below.refl w.heap.size w).alloc (Nat.le_refl _) _)) hs).mono ?_; rintro e w1 ⟨rfl, hb1⟩; replace hbel := hbel.trans (hb1.mono hbel.size)))
    go_ret
    exact ⟨rfl, hbel⟩
  · have n1 := str_ne hv
    have n2 := str_ne2 hv
    rw [emptyT_no hv, Bool.false_and]
    go_enter Tryz.func19, Tryz.ntmps19
    go_wp2
    go_ret
    exact ⟨rfl, hbel⟩

set_option maxHeartbeats 4000000 in
theorem formed_text (h : x.k = 4 ∨ x.k = 8) : Calls Tryz.prog 19 #[evV x] w (FPost x w) := by
  have hF : formedB x = (emptyT x.v && validL x.t.data.toList) := by
    unfold formedB
    rw [if_neg (by unfold bareK; rw [decide_eq_true_iff]; omega), if_neg (by omega), if_neg (by omega), if_pos h]
  unfold FPost evV
  rw [hF]
  clear hF
  obtain ⟨k, t, v⟩ := x
  simp only at h ⊢
  rcases h with rfl | rfl
  case' inl => have hbel := (Below.refl w.heap.size w).alloc (Nat.le_refl _) (.cells #[.int .i64 4, .string t, .string v] 38)
  case' inr => have hbel := (Below.refl w.heap.size w).alloc (Nat.le_refl _) (.cells #[.int .i64 8, .string t, .string v] 38)
  all_goals
    by_cases hv : v.size = 0
    · obtain rfl := str_nil hv
      rw [emptyT_nil, Bool.true_and]
      go_enter Tryz.func19, Tryz.ntmps19
      go_wp2_with (first
        | (go_at_call 31; refine (evalid_any t _).mono ?_; rintro e w1 ⟨rfl, hb1⟩; replace hbel := hbel.trans (hb1.mono hbel.size)))
      go_ret
      exact ⟨rfl, hbel⟩
    · have n1 := str_ne hv
      have n2 := str_ne2 hv
      rw [emptyT_no hv, Bool.false_and]
      go_enter Tryz.func19, Tryz.ntmps19
      go_wp2
      go_ret
      exact ⟨rfl, hbel⟩

set_option maxHeartbeats 4000000 in
theorem formed_elem (h : x.k = 10) (hs : x.t.size ≤ 140737488355328) : Calls Tryz.prog 19 #[evV x] w (FPost x w) := by
  have hF : formedB x = (emptyT x.v && fullL x.t.data.toList) := by unfold formedB; rw [h, if_neg (by decide), if_neg (by decide), if_neg (by decide), if_neg (by decide), if_pos rfl]
  unfold FPost evV
  rw [hF]
  clear hF
  have hx := EvAt.new w x
  obtain ⟨k, t, v⟩ := x
  have hbel := (Below.refl w.heap.size w).alloc (Nat.le_refl _) (.cells #[.int .i64 10, .string t, .string v] 38)
  simp only at h hs hx ⊢
  subst h
  by_cases hv : v.size = 0
  · obtain rfl := str_nil hv
    rw [emptyT_nil, Bool.true_and]
    have hc1 := hx.c1
    go_enter Tryz.func19, Tryz.ntmps19
    go_wp2_with (first
      | (go_at_call 28; refine (named_any w.heap.size t _ hc1 hs).mono ?_; rintro e w1 ⟨rfl, hb1⟩; replace hbel := hbel.trans (hb1.mono hbel.size)))
    go_ret
    exact ⟨rfl, hbel⟩
  · have n1 := str_ne hv
    have n2 := str_ne2 hv
    rw [emptyT_no hv, Bool.false_and]
    go_enter Tryz.func19, Tryz.ntmps19
    go_wp2
    go_ret
    exact ⟨rfl, hbel⟩

set_option maxHeartbeats 4000000 in
theorem formed_attr (h : x.k = 11) (hs : x.t.size ≤ 140737488355328) : Calls Tryz.prog 19 #[evV x] w (FPost x w) := by
  have hF : formedB x = (validL x.v.data.toList && fullL x.t.data.toList) := by unfold formedB; rw [h, if_neg (by decide), if_neg (by decide), if_neg (by decide), if_neg (by decide), if_neg (by decide), if_pos rfl]
  unfold FPost evV
  rw [hF]
  clear hF
  have hx := EvAt.new w x
  obtain ⟨k, t, v⟩ := x
  have hbel := (Below.refl w.heap.size w).alloc (Nat.le_refl _) (.cells #[.int .i64 11, .string t, .string v] 38)
  simp only at h hs hx ⊢
  subst h
  cases hv : validL v.data.toList with
  | true =>
    have HV := Lib.hid hv
    clear hv
    rw [Bool.true_and]
    go_enter Tryz.func19, Tryz.ntmps19
    go_wp2_with (first
      | (go_at_call 31; refine (evalid_any v _).mono ?_; rintro e w1 ⟨rfl, hb1⟩; rw [HV.out]; replace hbel := hbel.trans (hb1.mono hbel.size); have hc1 := (hx.below hb1).c1)
      | (go_at_call 28; refine (named_any w.heap.size t _ hc1 hs).mono ?_; rintro e w2 ⟨rfl, hb2⟩; replace hbel := hbel.trans (hb2.mono hbel.size)))
    go_ret
    exact ⟨rfl, hbel⟩
  | false =>
    have HV := Lib.hid hv
    clear hv
    rw [Bool.false_and]
    go_enter Tryz.func19, Tryz.ntmps19
    go_wp2_with (first
      | (go_at_call 31; refine (evalid_any v _).mono ?_; rintro e w1 ⟨rfl, hb1⟩; rw [HV.out]; replace hbel := hbel.trans (hb1.mono hbel.size)))
    go_ret
    exact ⟨rfl, hbel⟩

set_option maxHeartbeats 4000000 in
theorem formed_other (h : bareK x.k = false ∧ x.k ≠ 2 ∧ x.k ≠ 3 ∧ x.k ≠ 4 ∧ x.k ≠ 8 ∧ x.k ≠ 10 ∧ x.k ≠ 11) : Calls Tryz.prog 19 #[evV x] w (FPost x w) := by
  obtain ⟨h1, h2, h3, h4, h8, h10, h11⟩ := h
  have hF : formedB x = false := by unfold formedB; rw [h1, if_neg (by decide), if_neg h2, if_neg h3, if_neg (by omega), if_neg h10, if_neg h11]
  unfold FPost evV
  rw [hF]
  clear hF
  obtain ⟨k, t, v⟩ := x
  have hbel := (Below.refl w.heap.size w).alloc (Nat.le_refl _) (.cells #[.int .i64 k, .string t, .string v] 38)
  simp only at h1 h2 h3 h4 h8 h10 h11 ⊢
  unfold bareK at h1
  rw [decide_eq_false_iff_not] at h1
  have d1 : (k == 1) = false := by rw [beq_eq_false_iff_ne]; omega
  have d2 : (k == 2) = false := by rw [beq_eq_false_iff_ne]; omega
  have d3 : (k == 3) = false := by rw [beq_eq_false_iff_ne]; omega
  have d4 : (k == 4) = false := by rw [beq_eq_false_iff_ne]; omega
  have d5 : (k == 5) = false := by rw [beq_eq_false_iff_ne]; omega
  have d6 : (k == 6) = false := by rw [beq_eq_false_iff_ne]; omega
  have d7 : (k == 7) = false := by rw [beq_eq_false_iff_ne]; omega
  have d8 : (k == 8) = false := by rw [beq_eq_false_iff_ne]; omega
  have d9 : (k == 9) = false := by rw [beq_eq_false_iff_ne]; omega
  have d10 : (k == 10) = false := by rw [beq_eq_false_iff_ne]; omega
  have d11 : (k == 11) = false := by rw [beq_eq_false_iff_ne]; omega
  have d12 : (k == 12) = false := by rw [beq_eq_false_iff_ne]; omega
  clear h1 h2 h3 h4 h8 h10 h11
  go_enter Tryz.func19, Tryz.ntmps19
  go_wp2
  go_ret
  exact ⟨rfl, hbel⟩

/-- The variables of the library lie as the text lays them, if a number is told. -/
def NumW (k : Int) (w : World) : Prop := k = 3 → Nm.StdW w
theorem NumW.of {k : Int} {w : World} (h : Nm.StdW w) : NumW k w := fun _ => h
theorem NumW.no {k : Int} {w : World} (h : k ≠ 3) : NumW k w := fun e => absurd e h
theorem NumW.below {k : Int} {w w' : World} (h : NumW k w) (hb : Below w.heap.size w w') : NumW k w' := fun e => (h e).below hb
theorem NumW.drewN {k : Int} {w : World} (h : NumW k w) (n : Nat) : NumW k (w.drewN n) := fun e => (h e).drewN n
theorem formed_any (hw : NumW x.k w) (hs : x.t.size ≤ 140737488355328) : Calls Tryz.prog 19 #[evV x] w (FPost x w) := by
  cases hb : bareK x.k with
  | true => exact formed_bare x w hb
  | false =>
    by_cases h2 : x.k = 2
    · exact formed_bool x w h2
    by_cases h3 : x.k = 3
    · exact formed_num x w h3 (hw h3) hs
    by_cases h4 : x.k = 4 ∨ x.k = 8
    · exact formed_text x w h4
    by_cases h10 : x.k = 10
    · exact formed_elem x w h10 hs
    by_cases h11 : x.k = 11
    · exact formed_attr x w h11 hs
    · exact formed_other x w ⟨hb, h2, h3, by omega, by omega, h10, h11⟩
end
end Go.Proofs.YtjepnddndpmnnaaGreatDoor
