/-
  An Anchors as it lies: its block, its map of pointers, the names that are open, the anchors with their events; what its calls may turn.
-/
import Derived.Test.YtkghdieakpipkaaGreatDoorAnV04
import Derived.Test.YtkghdieakpipkaaGreatDoorAnV13
import Derived.Test.YtkghdieakpipkaaGreatDoorAnV14
import Derived.Maps.OwnIn
namespace Go.Proofs.YtkghdieakpipkaaGreatDoor
open Go.RowKit Go.Maps
set_option maxRecDepth 100000
set_option linter.unusedSimpArgs false
set_option linter.unusedVariables false


/-! What a call may turn: blocks of a set, of some kinds, and new ones. -/
structure TS (S : Nat → Prop) (p : Obj → Prop) (w w' : World) : Prop where
  os : w'.os = w.os
  tape : w'.tape = w.tape
  output : w'.output = w.output
  size : w.heap.size ≤ w'.heap.size
  block : ∀ k o, w.heap[k]? = some o → (¬ S k ∨ ¬ p o) → w'.heap[k]? = some o
def Ext (S : Nat → Prop) (w w' : World) (k : Nat) : Prop := S k ∨ (w.heap.size ≤ k ∧ k < w'.heap.size)
def anyO (_ : Obj) : Prop := True
section
variable {S : Nat → Prop} {p q : Obj → Prop} {w w1 w' : World}
theorem TS.refl (S : Nat → Prop) (p : Obj → Prop) (w : World) : TS S p w w := ⟨rfl, rfl, rfl, Nat.le_refl _, fun _ _ h _ => h⟩
theorem TS.trans (h : TS S p w w1) (k : TS S p w1 w') : TS S p w w' := ⟨k.os.trans h.os, k.tape.trans h.tape, k.output.trans h.output, Nat.le_trans h.size k.size, fun i o ho hc => k.block i o (h.block i o ho hc) hc⟩
theorem heap_lt {k : Nat} {o : Obj} (h : w.heap[k]? = some o) : k < w.heap.size := (Array.getElem?_eq_some_iff.1 h).1
theorem TS.transE (h : TS S p w w1) (k : TS (Ext S w w1) p w1 w') : TS S p w w' := ⟨k.os.trans h.os, k.tape.trans h.tape, k.output.trans h.output, Nat.le_trans h.size k.size, fun i o ho hc => k.block i o (h.block i o ho hc) (hc.imp (fun hn => by
  rintro (h1 | ⟨h1, _⟩)
  · exact hn h1
  · have := heap_lt ho; omega) id)⟩
theorem TS.wide (h : TS S p w w') (hp : ∀ o, p o → q o) : TS S q w w' := ⟨h.os, h.tape, h.output, h.size, fun k o ho hc => h.block k o ho (hc.imp id fun hn hp' => hn (hp o hp'))⟩
theorem TS.any (h : TS S p w w') : TS S anyO w w' := h.wide fun _ _ => trivial
theorem TS.of_below (h : Below w.heap.size w w') : TS S p w w' := ⟨h.os, h.tape, h.output, h.size, fun k _ ho _ => (h.block k (heap_lt ho)).trans ho⟩
theorem TS.of_grown {g : Nat} {o : Obj} (h : w.grownBy w' (some g)) (hg : S g) (ho : w.heap[g]? = some o) (hp : p o) : TS S p w w' :=
  ⟨h.os, h.tape, h.output, h.size, fun k o' ho' hc => by
    refine (h.block k (heap_lt ho') ?_).trans ho'
    intro e
    injection e with e
    subst e
    rw [ho] at ho'
    injection ho' with ho'
    subst ho'
    rcases hc with hc | hc
    · exact hc hg
    · exact hc hp⟩
theorem TS.of_grown_none (h : w.grownBy w' none) : TS S p w w' := ⟨h.os, h.tape, h.output, h.size, fun k _ ho' _ => (h.block k (heap_lt ho') (by simp)).trans ho'⟩
theorem TS.of_row {b : Nat} {e : TypeId} {size n : Nat} {v : Value} {xs : List Value} (hr : w.ownsRow b e size v n xs) (h : w.grownBy w' v.ownBlock) (hf : ∀ g, v.ownBlock = some g → S g) (hp : ∀ cur, p (.cells cur e (0, 0))) : TS S p w w' := by
  cases hv : v.ownBlock with
  | none => rw [hv] at h; exact TS.of_grown_none h
  | some g =>
    obtain ⟨cur, hh⟩ := row_obj hr hv
    rw [hv] at h
    exact TS.of_grown h (hf g hv) hh (hp _)
theorem TS.set (h : TS S p w w') {g : Nat} {t : TypeId} {cs : Array Value} (hk : Blk w' g t cs) (hf : S g) (hp : p (.cells cs t (0, 0))) (i : Nat) (u : Value) : TS S p w (w'.setCell ⟨g, i, none⟩ u) :=
  h.trans (TS.of_grown (only_setCell (World.grownBy.refl w' (some g)) (.inl rfl) u) hf hk hp)
theorem TS.alloc (h : TS S p w w') (o : Obj) : TS S p w (w'.alloc o) := h.trans (TS.of_below ((Below.refl _ _).alloc (Nat.le_refl _) _))
theorem TS.drewN (h : TS S p w w') (n : Nat) : TS S p w (w'.drewN n) := ⟨h.os, h.tape, h.output, h.size, h.block⟩
theorem TS.drew (h : TS S p w w') : TS S p w w'.drew := ⟨h.os, h.tape, h.output, h.size, h.block⟩
theorem TS.mono {S' : Nat → Prop} (h : TS S p w w') (hs : ∀ k, S k → S' k) : TS S' p w w' := ⟨h.os, h.tape, h.output, h.size, fun k o ho hc => h.block k o ho (hc.imp (fun hn hs' => hn (hs k hs')) id)⟩
/-- Where the blocks are all new to a world, nothing older has turned. -/
theorem TS.below {B : Nat} (h : TS S p w w') (hB : B ≤ w.heap.size) (hS : ∀ k, S k → B ≤ k) : Below B w w' :=
  ⟨h.os, h.tape, h.output, h.size, fun k hk => by
    obtain ⟨o, ho⟩ := heap_some (w := w) (Nat.lt_of_lt_of_le hk hB)
    rw [h.block k o ho (.inl fun hs => by have := hS k hs; omega), ho]⟩
theorem Blk.ts {g : Nat} {t : TypeId} {cs : Array Value} (h : Blk w g t cs) (ht : TS S p w w') (hp : ¬ S g ∨ ¬ p (.cells cs t (0, 0))) : Blk w' g t cs := ht.block _ _ h hp
theorem row_ts {b : Nat} {e : TypeId} {size n : Nat} {v : Value} {xs : List Value} (h : w.ownsRow b e size v n xs) (ht : TS S p w w') (hp : (∀ g, v.ownBlock = some g → ¬ S g) ∨ ∀ cur fr, ¬ p (.cells cur e fr)) : w'.ownsRow b e size v n xs := by
  refine ⟨h.1, ?_⟩
  rcases h.2 with hn | ⟨g, cap, cur, hv, hg, hh, r⟩
  · exact .inl hn
  · refine .inr ⟨g, cap, cur, hv, hg, ht.block _ _ hh ?_, r⟩
    rcases hp with hp | hp
    · exact .inl (hp g (by rw [hv]; rfl))
    · exact .inr (hp _ _)
theorem Ext.of (w w' : World) {k : Nat} (h : S k) : Ext S w w' k := .inl h
theorem Ext.lt (h : ∀ k, S k → k < w.heap.size) (hs : w.heap.size ≤ w'.heap.size) : ∀ k, Ext S w w' k → k < w'.heap.size := by
  rintro k (h1 | ⟨_, h1⟩)
  · have := h k h1; omega
  · exact h1
theorem Ext.ext (h1 : w.heap.size ≤ w1.heap.size) (h2 : w1.heap.size ≤ w'.heap.size) {k : Nat} (h : Ext (Ext S w w1) w1 w' k) : Ext S w w' k := by
  rcases h with (h | ⟨a, b⟩) | ⟨a, b⟩
  · exact .inl h
  · exact .inr ⟨a, by omega⟩
  · exact .inr ⟨by omega, b⟩
theorem Ext.wide (h2 : w1.heap.size ≤ w'.heap.size) {k : Nat} (h : Ext S w w1 k) : Ext S w w' k := by
  rcases h with h | ⟨a, b⟩
  · exact .inl h
  · exact .inr ⟨a, by omega⟩
end

theorem row_get {w : World} {base r : Nat} {e : TypeId} {size n cap : Nat} {xs : List Value} (h : w.ownsRow base e size (.slice (some ⟨r, 0, none⟩) n cap) n xs) {i : Nat} (hi : i < n * size) : ∃ u, w.cell? ⟨r, i, none⟩ = some u := by
  have hl := h.1
  exact ⟨xs[i]'(by omega), by rw [rowN_cell h hi]; exact List.getElem?_eq_getElem (by omega)⟩

/-! The kinds of what an Anchors holds. -/
def kA : Obj → Prop
  | .cells _ t _ => t = 53
  | _ => False
def kM : Obj → Prop
  | .map _ _ => True
  | _ => False
def kO : Obj → Prop
  | .cells _ t _ => t = 9
  | _ => False
def kP : Obj → Prop
  | .cells _ t _ => t = 61
  | _ => False
def kE : Obj → Prop
  | .cells _ t _ => t = 31
  | _ => False

/-- One that is kept: its name, its events, the block of its anchor, the slice that lies there. -/
structure ARec where
  nm : List UInt8
  evs : List Ev
  p : Nat
  lv : Value
def ARec.ent (r : ARec) : AEnt := (r.nm, r.evs)
def lookK (n : List UInt8) : List ARec → Option Nat
  | [] => none
  | r :: K => if r.nm = n then some r.p else lookK n K
theorem lookK_snoc (n : List UInt8) (K : List ARec) (r : ARec) : lookK n (K ++ [r]) = match lookK n K with | some p => some p | none => if r.nm = n then some r.p else none := by
  induction K with
  | nil => rfl
  | cons q K ih =>
    rw [List.cons_append]
    simp only [lookK]
    split
    · rfl
    · exact ih
theorem lookK_none {n : List UInt8} {K : List ARec} : lookK n K = none ↔ n ∉ K.map (·.nm) := by
  induction K with
  | nil => simp [lookK]
  | cons r K ih =>
    simp only [lookK, List.map_cons, List.mem_cons, not_or]
    by_cases h : r.nm = n
    · rw [if_pos h]; simp [h.symm]
    · rw [if_neg h, ih]; exact ⟨fun h2 => ⟨fun e => h e.symm, h2⟩, fun h2 => h2.2⟩
theorem lookK_mem {K : List ARec} (hn : (K.map (·.nm)).Nodup) {r : ARec} (hr : r ∈ K) : lookK r.nm K = some r.p := by
  induction K with
  | nil => cases hr
  | cons q K ih =>
    rw [List.map_cons, List.nodup_cons] at hn
    simp only [lookK]
    rcases List.mem_cons.1 hr with rfl | hr
    · rw [if_pos rfl]
    · have : q.nm ≠ r.nm := fun e => hn.1 (by rw [e]; exact List.mem_map_of_mem hr)
      rw [if_neg this]
      exact ih hn.2 hr

/-- How a pointer in the map reads. -/
def elemP : Value → Option (DataW Unit × List MemPlace)
  | .pointer (some ⟨p, 0, none⟩) => some (.lit (.int .i64 (p : Int)), [])
  | .pointer none => some (.nil, [])
  | _ => none
theorem elemP_inv {v : Value} {z : DataW Unit × List MemPlace} (h : elemP v = some z) : (∃ p : Nat, v = .pointer (some ⟨p, 0, none⟩) ∧ z = (.lit (.int .i64 (p : Int)), [])) ∨ (v = .pointer none ∧ z = (.nil, [])) := by
  unfold elemP at h
  split at h
  · injection h with h; exact .inl ⟨_, rfl, h.symm⟩
  · injection h with h; exact .inr ⟨rfl, h.symm⟩
  · cases h
def MapP (w : World) (b : Nat) (K : List ARec) : Prop :=
  ∃ D, w.ownsMap (H := Unit) Tryz.prog 9 elemP b K.length D ∧ (∀ n, Maps.has D (.string n) = (lookK n K).isSome) ∧ (∀ n z, D.atKey (.string n) z = match lookK n K with | some p => .lit (.int .i64 (p : Int)) | none => z) ∧ Maps.size D = K.length
section
variable {w w' : World} {b : Nat} {K : List ARec}
theorem MapP.lt (h : MapP w b K) : b < w.heap.size := by obtain ⟨D, h, _⟩ := h; exact h.lt
theorem MapP.obj (h : MapP w b K) : ∃ es c, w.heap[b]? = some (.map es c) := by obtain ⟨D, ⟨es, c, hb, _⟩, _⟩ := h; exact ⟨es, c, hb⟩
theorem MapP.keep (h : MapP w b K) (hk : w'.heap[b]? = w.heap[b]?) : MapP w' b K := by
  obtain ⟨D, ⟨es, c, hb, r⟩, h2⟩ := h
  exact ⟨D, ⟨es, c, hk.trans hb, r⟩, h2⟩
theorem MapP.ts {S : Nat → Prop} {p : Obj → Prop} (h : MapP w b K) (ht : TS S p w w') (hp : ¬ S b ∨ ∀ es c, ¬ p (.map es c)) : MapP w' b K := by
  obtain ⟨es, c, hb⟩ := h.obj
  exact h.keep (by rw [ht.block _ _ hb (hp.imp id fun h => h _ _), hb])
theorem MapP.congr {K' : List ARec} (h : MapP w b K) (hl : K'.length = K.length) (hk : ∀ n, lookK n K' = lookK n K) : MapP w b K' := by
  obtain ⟨D, h1, h2, h3, h4⟩ := h
  exact ⟨D, by rw [hl]; exact h1, fun n => by rw [hk]; exact h2 n, fun n z => by rw [hk]; exact h3 n z, by rw [hl]; exact h4⟩
theorem MapP.new (w : World) : MapP (w.alloc (.map #[] 0)) w.heap.size [] :=
  ⟨.map [], World.ownsMap_made w _ _ _, fun _ => rfl, fun _ _ => rfl, rfl⟩
theorem MapP.put (h : MapP w b K) {n : ByteArray} (hp : n.size ≤ maxLen) (hn : K.length < maxLen) (hl : lookK n.data.toList K = none) (r : ARec) (hr : r.nm = n.data.toList) :
    ∃ w', (Instr.mapUpdate 50 (.map (some b)) (.string n) (.pointer (some ⟨r.p, 0, none⟩))).run Tryz.prog w = .ok () w' ∧ MapP w' b (K ++ [r]) ∧ w.grownBy w' (some b) := by
  obtain ⟨D, h1, h2, h3, h4⟩ := h
  obtain ⟨w', hr', ho, hg⟩ := h1.update (t := 50) strLaw Tryz.underlying50 hn (WideMaps.keyOf_string_mk Tryz.underlying9 hp) (show elemP (.pointer (some ⟨r.p, 0, none⟩)) = some (.lit (.int .i64 (r.p : Int)), []) from rfl)
  have hk : WideAt.IsKeyLit (.string n.data.toList) := by simp [WideAt.IsKeyLit]
  have hT := h1.tidy strLaw
  refine ⟨w', hr', ⟨_, by rw [List.length_append]; exact ho, fun q => ?_, fun q z => ?_, ?_⟩, hg⟩
  · rw [lookK_snoc, hr]
    by_cases hq : q = n.data.toList
    · subst hq
      rw [has_put_same h1.isMap hk, hl]
      simp
    · rw [has_put_other (by simpa using hq), h2]
      rw [if_neg (Ne.symm hq)]
      cases lookK q K <;> rfl
  · rw [lookK_snoc, hr]
    by_cases hq : q = n.data.toList
    · subst hq
      rw [atKey_put_same h1.isMap hk, hl]
      simp
    · rw [atKey_put_other (by simpa using hq), h3]
      rw [if_neg (Ne.symm hq)]
      cases lookK q K <;> rfl
  · rw [size_put hT, h2, hl, List.length_append]
    simp [h4]
theorem MapP.look (h : MapP w b K) {n : ByteArray} (hn : n.size ≤ 140737488355328) {p : Nat} (hl : lookK n.data.toList K = some p) :
    (Instr.lookup 50 (.map (some b)) (.string n) false).run Tryz.prog w = .ok (.pointer (some ⟨p, 0, none⟩)) w := by
  obtain ⟨D, h1, h2, h3, h4⟩ := h
  obtain ⟨v, ps, hrun, hv⟩ := h1.lookup (t := 50) strLaw Tryz.underlying50 (Tryz.zeroValue57 _) (show elemP (.pointer none) = some (.nil, []) from rfl) (WideMaps.keyOf_string_mk Tryz.underlying9 (show n.size ≤ maxLen by simp only [maxLen]; omega))
  rw [h3, hl] at hv
  rcases elemP_inv hv with ⟨q, rfl, hz⟩ | ⟨rfl, hz⟩
  · injection hz with hz _
    injection hz with hz
    injection hz with _ hz
    have : p = q := by omega
    subst this
    exact hrun
  · injection hz with hz _
    cases hz
theorem MapP.look_ok (h : MapP w b K) {n : ByteArray} (hn : n.size ≤ 140737488355328) :
    (∀ p, lookK n.data.toList K = some p → (Instr.lookup 50 (.map (some b)) (.string n) true).run Tryz.prog w = .ok (.tuple #[.pointer (some ⟨p, 0, none⟩), .bool true]) w) ∧
    (lookK n.data.toList K = none → (Instr.lookup 50 (.map (some b)) (.string n) true).run Tryz.prog w = .ok (.tuple #[.pointer none, .bool false]) w) := by
  obtain ⟨D, h1, h2, h3, h4⟩ := h
  obtain ⟨v, ps, hrun, hv⟩ := h1.look_ok (t := 50) strLaw Tryz.underlying50 (Tryz.zeroValue57 _) (show elemP (.pointer none) = some (.nil, []) from rfl) (WideMaps.keyOf_string_mk Tryz.underlying9 (show n.size ≤ maxLen by simp only [maxLen]; omega))
  rw [h2] at hrun
  rw [h3] at hv
  constructor
  · intro p hl
    rw [hl] at hrun hv
    rcases elemP_inv hv with ⟨q, rfl, hz⟩ | ⟨rfl, hz⟩
    · injection hz with hz _
      injection hz with hz
      injection hz with _ hz
      have : p = q := by omega
      subst this
      exact hrun
    · injection hz with hz _
      cases hz
  · intro hl
    rw [hl] at hrun hv
    rcases elemP_inv hv with ⟨q, rfl, hz⟩ | ⟨rfl, hz⟩
    · injection hz with hz _
      cases hz
    · exact hrun
end

/-! An anchor, and all. -/
structure KRec (w : World) (S : Nat → Prop) (r : ARec) : Prop where
  blk : Blk w r.p 61 #[r.lv]
  row : ERow w 0 r.lv r.evs
  sp : S r.p
  sr : ∀ g, r.lv.ownBlock = some g → S g
def aCells (mb : Nat) (ov : Value) (size told : Nat) : Array Value := #[.map (some mb), ov, .int .i64 (size : Int), .int .i64 (told : Int)]
def apartR (r q : ARec) : Prop := r.nm ≠ q.nm ∧ r.p ≠ q.p ∧ ∀ g, r.lv.ownBlock = some g → q.lv.ownBlock ≠ some g
structure ARest (w : World) (S : Nat → Prop) (a : Nat) (K : List ARec) (size told mb : Nat) (ov : Value) : Prop where
  blk : Blk w a 53 (aCells mb ov size told)
  sa : S a
  sm : S mb
  map : MapP w mb K
  recs : ∀ r ∈ K, KRec w S r
  ap : K.Pairwise apartR
structure ARep (w : World) (S : Nat → Prop) (a : Nat) (K : List ARec) (op : List (List UInt8)) (size told mb : Nat) (ov : Value) : Prop where
  rest : ARest w S a K size told mb ov
  so : ∀ g, ov.ownBlock = some g → S g
  opn : ORow w 0 9 ov (op.map strV)
section
variable {w w' : World} {S S' : Nat → Prop} {a : Nat} {K : List ARec} {op : List (List UInt8)} {size told mb : Nat} {ov : Value} {p : Obj → Prop}
theorem KRec.ts {r : ARec} (h : KRec w S r) (ht : TS S p w w') (h1 : ∀ cs fr, ¬ p (.cells cs 61 fr)) (h2 : ∀ cs fr, ¬ p (.cells cs 31 fr)) : KRec w' S r :=
  ⟨h.blk.ts ht (.inr (h1 _ _)), row_ts h.row ht (.inr h2), h.sp, h.sr⟩
theorem KRec.off {T : Nat → Prop} {r : ARec} (h : KRec w S r) (ht : TS T p w w') (hd : ∀ k, S k → ¬ T k) : KRec w' S r :=
  ⟨h.blk.ts ht (.inl (hd _ h.sp)), row_ts h.row ht (.inl fun g hg => hd _ (h.sr g hg)), h.sp, h.sr⟩
theorem row_lt {b : Nat} {e : TypeId} {sz n : Nat} {v : Value} {xs : List Value} (h : w.ownsRow b e sz v n xs) : ∀ g, v.ownBlock = some g → g < w.heap.size := fun g hg => (World.ownsRow.lt h g hg).2
/-- What lies elsewhere turned alone. -/
theorem ARest.off {T : Nat → Prop} (h : ARest w S a K size told mb ov) (ht : TS T p w w') (hd : ∀ k, S k → ¬ T k) : ARest w' S a K size told mb ov :=
  ⟨h.blk.ts ht (.inl (hd _ h.sa)), h.sa, h.sm, h.map.ts ht (.inl (hd _ h.sm)), fun r hr => (h.recs r hr).off ht hd, h.ap⟩
theorem ARep.off {T : Nat → Prop} (h : ARep w S a K op size told mb ov) (ht : TS T p w w') (hd : ∀ k, S k → ¬ T k) : ARep w' S a K op size told mb ov :=
  ⟨h.rest.off ht hd, h.so, row_ts h.opn ht (.inl fun g hg => hd _ (h.so g hg))⟩
theorem ARep.below (h : ARep w S a K op size told mb ov) (hb : Below w.heap.size w w') : ARep w' S a K op size told mb ov :=
  h.off (T := fun _ => False) (p := anyO) (TS.of_below hb) (fun _ _ h => h)
theorem ARep.mono (h : ARep w S a K op size told mb ov) (hs : ∀ k, k < w.heap.size → S k → S' k) : ARep w S' a K op size told mb ov :=
  ⟨⟨h.rest.blk, hs _ h.rest.blk.lt h.rest.sa, hs _ h.rest.map.lt h.rest.sm, h.rest.map, fun r hr => ⟨(h.rest.recs r hr).blk, (h.rest.recs r hr).row, hs _ (h.rest.recs r hr).blk.lt (h.rest.recs r hr).sp, fun g hg => hs _ (row_lt (h.rest.recs r hr).row g hg) ((h.rest.recs r hr).sr g hg)⟩, h.rest.ap⟩, fun g hg => hs _ (row_lt h.opn g hg) (h.so g hg), h.opn⟩
theorem ARest.cells (h : ARest w S a K size told mb ov) : w.cell? ⟨a, 0, none⟩ = some (.map (some mb)) ∧ w.cell? ⟨a, 1, none⟩ = some ov ∧ w.cell? ⟨a, 2, none⟩ = some (.int .i64 (size : Int)) ∧ w.cell? ⟨a, 3, none⟩ = some (.int .i64 (told : Int)) :=
  ⟨h.blk.cell 0, h.blk.cell 1, h.blk.cell 2, h.blk.cell 3⟩
/-- A store into the block of the Anchors itself. -/
theorem ARest.setA (h : ARest w S a K size told mb ov) (i : Nat) (u : Value) {ov' : Value} {size' told' : Nat} (hc : (aCells mb ov size told).setIfInBounds i u = aCells mb ov' size' told') : ARest (w.setCell ⟨a, i, none⟩ u) S a K size' told' mb ov' ∧ TS S kA w (w.setCell ⟨a, i, none⟩ u) := by
  have ht : TS S kA w (w.setCell ⟨a, i, none⟩ u) := (TS.refl _ _ _).set h.blk h.sa (show kA (.cells _ _ _) from rfl) i u
  exact ⟨⟨by rw [← hc]; exact h.blk.set_ i u, h.sa, h.sm, h.map.ts ht (.inr fun _ _ h => h), fun r hr => (h.recs r hr).ts ht (fun _ _ => by simp only [kA]; decide) (fun _ _ => by simp only [kA]; decide), h.ap⟩, ht⟩
/-- Rows of names turned alone. -/
theorem ARest.kO (h : ARest w S a K size told mb ov) (hg : TS S kO w w') : ARest w' S a K size told mb ov :=
  ⟨h.blk.ts hg (.inr (by simp only [Go.Proofs.YtkghdieakpipkaaGreatDoor.kO]; decide)), h.sa, h.sm, h.map.ts hg (.inr fun _ _ h => h), fun r hr => (h.recs r hr).ts hg (fun _ _ => by simp only [Go.Proofs.YtkghdieakpipkaaGreatDoor.kO]; decide) (fun _ _ => by simp only [Go.Proofs.YtkghdieakpipkaaGreatDoor.kO]; decide), h.ap⟩
end
/-- The blocks of a set, and all that a world has not. -/
def Up (S : Nat → Prop) (w : World) (k : Nat) : Prop := S k ∨ w.heap.size ≤ k
theorem TS.cut {S : Nat → Prop} {p : Obj → Prop} {w w' : World} (h : TS (Up S w) p w w') : TS S p w w' :=
  ⟨h.os, h.tape, h.output, h.size, fun k o ho hc => h.block k o ho (hc.imp (fun hn hu => by
    rcases hu with hu | hu
    · exact hn hu
    · have := heap_lt ho; omega) id)⟩
theorem TS.up {S : Nat → Prop} {p : Obj → Prop} {w w' w0 : World} (h : TS S p w w') : TS (Up S w0) p w w' := h.mono fun _ h => .inl h
/-- An Anchors that holds just s. -/
def AAt (w : World) (S : Nat → Prop) (a : Nat) (s : Am) : Prop := (∀ k, S k → k < w.heap.size) ∧ ∃ K op mb ov, ARep w S a K op (sizeA s.m) s.told mb ov ∧ K.map ARec.ent = s.m ∧ op.Perm (namesA (pend s.m))
section
variable {w w' : World} {S S' : Nat → Prop} {a : Nat} {s : Am} {p : Obj → Prop}
theorem AAt.off {T : Nat → Prop} (h : AAt w S a s) (ht : TS T p w w') (hd : ∀ k, S k → ¬ T k) : AAt w' S a s := by
  obtain ⟨hl, K, op, mb, ov, hR, h2⟩ := h
  exact ⟨fun k hk => Nat.lt_of_lt_of_le (hl k hk) ht.size, K, op, mb, ov, hR.off ht hd, h2⟩
theorem AAt.below (h : AAt w S a s) (hb : Below w.heap.size w w') : AAt w' S a s := h.off (T := fun _ => False) (p := anyO) (TS.of_below hb) (fun _ _ h => h)
theorem AAt.lt (h : AAt w S a s) : ∀ k, S k → k < w.heap.size := h.1
theorem AAt.at_lt (h : AAt w S a s) : a < w.heap.size := by obtain ⟨_, _, _, _, _, hR, _⟩ := h; exact hR.rest.blk.lt
/-- Behind a call that began at w. -/
theorem AAt.mk' {K : List ARec} {op : List (List UInt8)} {mb : Nat} {ov : Value} (hl : ∀ k, S k → k < w.heap.size) (hs : w.heap.size ≤ w'.heap.size) (hR : ARep w' (Up S w) a K op (sizeA s.m) s.told mb ov) (hK : K.map ARec.ent = s.m) (hO : op.Perm (namesA (pend s.m))) : AAt w' (Ext S w w') a s :=
  ⟨Ext.lt hl hs, K, op, mb, ov, hR.mono fun k hk hu => hu.imp id fun h => ⟨h, hk⟩, hK, hO⟩
end

/-! Appends, with the block of what comes of it. -/
def NB (w : World) (v v' : Value) : Prop := v'.ownBlock = v.ownBlock ∨ ∃ k, v'.ownBlock = some k ∧ w.heap.size ≤ k
section
variable {P : Program} {w : World}
theorem wp_appX {ops : Array Oper} {rest : List Oper} {o : Oper} {a : Act} {Q : Exit → Act → World → Prop} (hgd : o.guard = none) (s x : Operand) (t : TypeId)
    (ho : o.op = .call { callee := .builtin .append, args := #[s, x], argTypes := #[t, t] })
    (base : Nat) (e : TypeId) (z : Value) (size bytes : Nat) (ht : P.underlying t = some (.slice e)) (hinfo : (P.info? e).map (fun i => (i.zero, i.size, i.bytes)) = some (some z, size, bytes)) (hz1 : z.cells.size = size) (hs0 : 0 < size)
    (v : Value) (n : Nat) (xs news : List Value) (hs : a.eval s = v) (hown : w.ownsRow base e size v n xs) (hu : ∀ u ∈ news, u.oneCell' = true)
    (A : Addr) (m c : Nat) (hm : news.length = m * size) (hx : a.eval x = .slice (some A) m c) (hc : ∀ j u, news[j]? = some u → w.cell? (A.add j) = some u)
    (h63 : n + m ≤ maxLen) (hbytes : (n + m) * bytes ≤ 140737488355328) (hbase : base ≤ w.heap.size)
    (h : ∀ v' w', w'.ownsRow base e size v' (n + m) (xs ++ news) → w.grownBy w' v.ownBlock → NB w v v' → wpList P ops Q rest (a.put o.dst v') w') :
    wpList P ops Q (o :: rest) a w := by
  obtain ⟨i, hi, hz, hsize, hby⟩ := info_parts hinfo
  refine wpList_plain hgd fun K hK => ?_
  obtain ⟨v', w', hrun, h2, h3, _, h5⟩ := run_append_own_at (P := P) w base t o.type e i z size bytes ht hi hz hsize hby hz1 hs0 v n xs hown A m c news hm hc hu h63 hbytes hbase
  unfold Oper.wp execOp
  simp only [ho, resolve, invoke, builtin, Sem.run_bind, Sem.run_pure, Result.andThen_ok, List.map_toArray, List.map_cons, List.map_nil, hs, hx, hrun]
  exact hK _ _ (h v' w' h2 h3 (h5.imp id fun e => ⟨_, e, Nat.le_refl _⟩))
theorem step_appX {ops : Array Oper} {o : Oper} {a : Act} {K : Act → World → Prop} {Q : Exit → Act → World → Prop} {E : Prop} (hgd : o.guard = none) (s x : Operand) (t : TypeId)
    (ho : o.op = .call { callee := .builtin .append, args := #[s, x], argTypes := #[t, t] })
    (base : Nat) (e : TypeId) (z : Value) (size bytes : Nat) (ht : P.underlying t = some (.slice e)) (hinfo : (P.info? e).map (fun i => (i.zero, i.size, i.bytes)) = some (some z, size, bytes)) (hz1 : z.cells.size = size) (hs0 : 0 < size)
    (v : Value) (n : Nat) (xs news : List Value) (hs : a.eval s = v) (hown : w.ownsRow base e size v n xs) (hu : ∀ u ∈ news, u.oneCell' = true)
    (A : Addr) (m c : Nat) (hm : news.length = m * size) (hx : a.eval x = .slice (some A) m c) (hc : ∀ j u, news[j]? = some u → w.cell? (A.add j) = some u)
    (h63 : n + m ≤ maxLen) (hbytes : (n + m) * bytes ≤ 140737488355328) (hbase : base ≤ w.heap.size)
    (h : ∀ v' w', w'.ownsRow base e size v' (n + m) (xs ++ news) → w.grownBy w' v.ownBlock → NB w v v' → K (a.put o.dst v') w') :
    if Region.wanted o (yielded ops a.tmps) = true then Oper.wp P o a w K Q else E := by
  have hw : Region.wanted o (yielded ops a.tmps) = true := by simp [Region.wanted, hgd]
  rw [if_pos hw]
  obtain ⟨i, hi, hz, hsize, hby⟩ := info_parts hinfo
  obtain ⟨v', w', hrun, h2, h3, _, h5⟩ := run_append_own_at (P := P) w base t o.type e i z size bytes ht hi hz hsize hby hz1 hs0 v n xs hown A m c news hm hc hu h63 hbytes hbase
  unfold Oper.wp execOp
  simp only [ho, resolve, invoke, builtin, Sem.run_bind, Sem.run_pure, Result.andThen_ok, List.map_toArray, List.map_cons, List.map_nil, hs, hx, hrun]
  exact h v' w' h2 h3 (h5.imp id fun e => ⟨_, e, Nat.le_refl _⟩)
end
end Go.Proofs.YtkghdieakpipkaaGreatDoor
