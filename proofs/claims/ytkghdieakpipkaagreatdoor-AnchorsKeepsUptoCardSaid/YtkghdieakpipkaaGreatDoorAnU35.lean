/-
  anchors: an event put behind those of a name; what is open then.
  A range over a function whose rounds write memory, and which may stand in one another: what a round keeps is a relation; what the function turns between two rounds is told by the objects' kinds. No program is read here.
-/
import Derived.Test.YtkghdieakpipkaaGreatDoorAnU34
import Derived.Test.YtkghdieakpipkaaGreatDoorAnU12
import Derived.RangeFuncFrom
import Derived.RangeFuncNested
import Derived.RangeFuncCalls
import Derived.RangeFuncLeaves
namespace Go.Proofs.YtkghdieakpipkaaGreatDoor
open Go.RowKit Go.Maps
set_option maxRecDepth 100000
set_option linter.unusedSimpArgs false
set_option linter.unusedVariables false

theorem ap_names {K : List ARec} (h : K.Pairwise apartR) : (K.map (·.nm)).Nodup := by
  unfold List.Nodup
  rw [List.pairwise_map]
  exact h.imp fun h => h.1
theorem ap_same {K : List ARec} (h : K.Pairwise apartR) {r q : ARec} (hr : r ∈ K) (hq : q ∈ K) (e : r.nm = q.nm) : r = q := by
  induction K with
  | nil => cases hr
  | cons y K ih =>
    rw [List.pairwise_cons] at h
    rcases List.mem_cons.1 hr with h1 | h1
    · rcases List.mem_cons.1 hq with h2 | h2
      · rw [h1, h2]
      · exact absurd (by rw [← h1]; exact e) (h.1 q h2).1
    · rcases List.mem_cons.1 hq with h2 | h2
      · exact absurd (by rw [← h2]; exact e.symm) (h.1 r h1).1
      · exact ih h.2 h1 h2
theorem apart_of {K : List ARec} (h : K.Pairwise apartR) {r q : ARec} (hr : r ∈ K) (hq : q ∈ K) (e : r.nm ≠ q.nm) : r.p ≠ q.p ∧ ∀ g, r.lv.ownBlock = some g → q.lv.ownBlock ≠ some g := by
  induction K with
  | nil => cases hr
  | cons y K ih =>
    rw [List.pairwise_cons] at h
    rcases List.mem_cons.1 hr with h1 | h1
    · rcases List.mem_cons.1 hq with h2 | h2
      · exact absurd (by rw [h1, h2]) e
      · rw [h1]; exact (h.1 q h2).2
    · rcases List.mem_cons.1 hq with h2 | h2
      · rw [h2]
        obtain ⟨_, h3, h4⟩ := h.1 r h1
        exact ⟨fun e => h3 e.symm, fun g hg hc => h4 g hc hg⟩
      · exact ih h.2 h1 h2
/-- The record of a name, with an event more. -/
def putR (nm : List UInt8) (x : Ev) (lv : Value) (q : ARec) : ARec := if q.nm = nm then { q with evs := q.evs ++ [x], lv := lv } else q
theorem putR_nm (nm : List UInt8) (x : Ev) (lv : Value) (q : ARec) : (putR nm x lv q).nm = q.nm ∧ (putR nm x lv q).p = q.p := by
  unfold putR; split <;> exact ⟨rfl, rfl⟩
theorem lookK_put (nm : List UInt8) (x : Ev) (lv : Value) (n : List UInt8) (K : List ARec) : lookK n (K.map (putR nm x lv)) = lookK n K := by
  induction K with
  | nil => rfl
  | cons q K ih =>
    rw [List.map_cons]
    simp only [lookK]
    rw [(putR_nm nm x lv q).1, (putR_nm nm x lv q).2, ih]
/-- An anchor's slice appended to, and stored. -/
theorem ARest.push {w1 w2 : World} {S : Nat → Prop} {a : Nat} {K : List ARec} {size told mb : Nat} {ov : Value} (h : ARest w1 S a K size told mb ov) {r : ARec} (hr : r ∈ K) {x : Ev} {lv' : Value}
    (hg : w1.grownBy w2 r.lv.ownBlock) (hrow : ERow w2 0 lv' (r.evs ++ [x])) (hnb : NB w1 r.lv lv') (hup : ∀ k, w1.heap.size ≤ k → S k) :
    ARest (w2.setCell ⟨r.p, 0, none⟩ lv') S a (K.map (putR r.nm x lv')) size told mb ov ∧ TS S anyO w1 (w2.setCell ⟨r.p, 0, none⟩ lv') ∧ Blk w2 r.p 61 #[r.lv] ∧ (∀ ov' op, ORow w1 0 9 ov' op → ORow (w2.setCell ⟨r.p, 0, none⟩ lv') 0 9 ov' op) := by
  have hrR := h.recs r hr
  have hT2 : TS S kE w1 w2 := TS.of_row hrR.row hg hrR.sr (fun _ => rfl)
  have hB2 : Blk w2 r.p 61 #[r.lv] := hrR.blk.ts hT2 (.inr (by simp only [kE]; decide))
  have hT3 : TS S kP w2 (w2.setCell ⟨r.p, 0, none⟩ lv') := (TS.refl _ _ _).set hB2 hrR.sp (show kP (.cells _ _ _) from rfl) 0 lv'
  have hown : ∀ g, lv'.ownBlock = some g → S g := fun g hg' => by
    rcases hnb with e | ⟨k, e, hk⟩
    · exact hrR.sr g (by rw [← e]; exact hg')
    · rw [e] at hg'; injection hg' with hg'; subst hg'; exact hup _ hk
  refine ⟨⟨(h.blk.ts hT2 (.inr (by simp only [kE]; decide))).ts hT3 (.inr (by simp only [kP]; decide)), h.sa, h.sm, ?_, ?_, ?_⟩, hT2.any.trans hT3.any, hB2, fun ov' op ho => row_ts (row_ts ho hT2 (.inr fun _ _ => by simp only [kE]; decide)) hT3 (.inr fun _ _ => by simp only [kP]; decide)⟩
  · exact ((h.map.ts hT2 (.inr fun _ _ h => h)).ts hT3 (.inr fun _ _ h => h)).congr (by simp) (fun n => lookK_put _ _ _ _ _)
  · intro q' hq'
    obtain ⟨q, hq, rfl⟩ := List.mem_map.1 hq'
    by_cases e : q.nm = r.nm
    · have : q = r := ap_same h.ap hq hr e
      subst this
      have e2 : putR q.nm x lv' q = { q with evs := q.evs ++ [x], lv := lv' } := by unfold putR; rw [if_pos rfl]
      rw [e2]
      exact ⟨hB2.set_ 0 lv', row_ts hrow hT3 (.inr fun _ _ => by simp only [kP]; decide), hrR.sp, hown⟩
    · have e2 : putR r.nm x lv' q = q := by unfold putR; rw [if_neg e]
      rw [e2]
      have hqR := h.recs q hq
      obtain ⟨hp, ho⟩ := apart_of h.ap hq hr e
      refine ⟨(hqR.blk.ts hT2 (.inr (by simp only [kE]; decide))).far (p := ⟨r.p, 0, none⟩) hp lv', ?_, hqR.sp, hqR.sr⟩
      have hk : ERow w2 0 q.lv q.evs := by
        refine World.ownsRow.kept hqR.row hg ?_
        cases hq2 : q.lv.ownBlock with
        | none => exact .inl rfl
        | some g => exact .inr fun hc => ho g hq2 hc.symm
      exact row_ts hk hT3 (.inr fun _ _ => by simp only [kP]; decide)
  · rw [List.pairwise_map]
    refine (List.Pairwise.imp_of_mem ?_ h.ap)
    intro q1 q2 hq1 hq2 h12
    refine ⟨by rw [(putR_nm _ _ _ _).1, (putR_nm _ _ _ _).1]; exact h12.1, by rw [(putR_nm _ _ _ _).2, (putR_nm _ _ _ _).2]; exact h12.2.1, ?_⟩
    have hlvr : ∀ q ∈ K, q.nm ≠ r.nm → ∀ g, lv'.ownBlock = some g → q.lv.ownBlock ≠ some g := by
      intro q hq e g hg' hc
      rcases hnb with e1 | ⟨k, e1, hk⟩
      · exact (apart_of h.ap hq hr e).2 g hc (by rw [← e1]; exact hg')
      · rw [e1] at hg'; injection hg' with hg'; subst hg'
        have := row_lt (h.recs q hq).row _ hc
        omega
    intro g hg1
    unfold putR at hg1 ⊢
    by_cases e1 : q1.nm = r.nm
    · rw [if_pos e1] at hg1
      have e2 : q2.nm ≠ r.nm := fun e => h12.1 (e1.trans e.symm)
      rw [if_neg e2]
      exact hlvr q2 hq2 e2 g hg1
    · rw [if_neg e1] at hg1
      by_cases e2 : q2.nm = r.nm
      · rw [if_pos e2]
        intro hc
        exact hlvr q1 hq1 e1 g hc hg1
      · rw [if_neg e2]
        exact h12.2.2 g hg1
/-! What is open, behind a step. -/
theorem lookA_mem {m : List AEnt} (hn : (namesA m).Nodup) {e : AEnt} (he : e ∈ m) : lookA e.1 m = some e.2 := by
  induction m with
  | nil => cases he
  | cons q m ih =>
    unfold namesA at hn
    rw [List.map_cons, List.nodup_cons] at hn
    simp only [lookA]
    rcases List.mem_cons.1 he with rfl | he
    · rw [if_pos rfl]
    · have : q.1 ≠ e.1 := fun h => hn.1 (by rw [h]; exact List.mem_map_of_mem he)
      rw [if_neg this]
      exact ih hn.2 he
def qd (m : List AEnt) (n : List UInt8) : Bool := match lookA n m with | some l => knownB l | none => false
theorem pend_push {m : List AEnt} (hn : (namesA m).Nodup) (x : Ev) : namesA (pend (m.map (pushA x))) = (namesA (pend m)).filter fun n => !qd (m.map (pushA x)) n := by
  have hn' : (namesA (m.map (pushA x))).Nodup := by rw [names_push]; exact hn
  have key : ∀ l : List AEnt, (∀ e ∈ l, e ∈ m) → namesA (pend (l.map (pushA x))) = (namesA (pend l)).filter fun n => !qd (m.map (pushA x)) n := by
    intro l
    induction l with
    | nil => intro _; rfl
    | cons e l ih =>
      intro hl
      have ih2 := ih fun q hq => hl q (List.mem_cons_of_mem _ hq)
      have hem := hl e List.mem_cons_self
      have hq : qd (m.map (pushA x)) e.1 = knownB (pushA x e).2 := by
        have h1 : (pushA x e).1 = e.1 := by unfold pushA; split <;> rfl
        have := lookA_mem hn' (List.mem_map_of_mem hem)
        rw [h1] at this
        unfold qd
        rw [this]
      unfold pend namesA at ih2 ⊢
      rw [List.map_cons, List.filter_cons, List.filter_cons]
      cases hk : knownB e.2 with
      | true =>
        have hp : pushA x e = e := by unfold pushA; rw [if_pos hk]
        rw [hp, hk]
        simp only [Bool.not_true, Bool.false_eq_true, if_false]
        exact ih2
      | false =>
        have h1 : (pushA x e).1 = e.1 := by unfold pushA; split <;> rfl
        simp only [Bool.not_false, if_true, List.map_cons, List.filter_cons]
        rw [hq]
        cases hk2 : knownB (pushA x e).2 with
        | true =>
          simp only [Bool.not_true, Bool.false_eq_true, if_false]
          exact ih2
        | false =>
          simp only [Bool.not_false, if_true, List.map_cons, h1]
          rw [ih2]
  exact key m fun _ h => h
theorem mem_pend {K : List ARec} {m : List AEnt} (hK : K.map ARec.ent = m) {op : List (List UInt8)} (hO : op.Perm (namesA (pend m))) {n : List UInt8} (hn : n ∈ op) : ∃ r ∈ K, r.nm = n ∧ knownB r.evs = false := by
  have h1 := hO.mem_iff.1 hn
  unfold namesA pend at h1
  obtain ⟨e, he, rfl⟩ := List.mem_map.1 h1
  rw [List.mem_filter] at he
  rw [← hK] at he
  obtain ⟨r, hr, rfl⟩ := List.mem_map.1 he.1
  exact ⟨r, hr, rfl, by simpa [ARec.ent] using he.2⟩
theorem pend_nodup {m : List AEnt} (hn : (namesA m).Nodup) : (namesA (pend m)).Nodup := by
  unfold namesA pend at *
  exact hn.sublist (List.Sublist.map _ List.filter_sublist)
/-- What a Check takes has a kind that there is, and is not long. -/
theorem kind_of {st : List Pt} {x : Ev} (h : stepE st x = 0) : 1 ≤ x.k ∧ x.k ≤ 12 := by
  have hf : formedB x = true := by
    cases st with
    | nil => simp only [stepE] at h; exact absurd h (by decide)
    | cons p r => exact (cont_of h).1
  unfold formedB at hf
  by_cases h1 : bareK x.k = true
  · unfold bareK at h1; rw [decide_eq_true_iff] at h1; omega
  · rw [if_neg h1] at hf
    by_cases h2 : x.k = 2
    · omega
    · rw [if_neg h2] at hf
      by_cases h3 : x.k = 3
      · omega
      · rw [if_neg h3] at hf
        by_cases h4 : x.k = 4 ∨ x.k = 8
        · omega
        · rw [if_neg h4] at hf
          by_cases h5 : x.k = 10
          · omega
          · rw [if_neg h5] at hf
            by_cases h6 : x.k = 11
            · omega
            · rw [if_neg h6] at hf; cases hf
theorem all_kinds : ∀ (l : List Ev) (st : List Pt), allOk st l → ∀ x ∈ l, 1 ≤ x.k ∧ x.k ≤ 12
  | [], _, _, x, hx => by cases hx
  | y :: l, st, h, x, hx => by
    rcases List.mem_cons.1 hx with rfl | hx
    · exact kind_of h.1
    · exact all_kinds l _ h.2 x hx
theorem ainv_okE {s : Am} (h : AInv s) {e : AEnt} (he : e ∈ s.m) : (∀ x ∈ e.2, okE x) ∧ e.2.length ≤ 200 := by
  have h1 := entSz_le he
  have h2 := h.sz
  have h3 : evsSz e.2 ≤ 200 := by unfold entSz at h1; omega
  refine ⟨fun x hx => ?_, by have := evsSz_len e.2; omega⟩
  have hk := all_kinds _ _ (h.ok e he).1 x hx
  have h4 := evSz_le hx
  unfold evSz at h4
  exact ⟨by omega, by omega, by omega, by omega⟩
end Go.Proofs.YtkghdieakpipkaaGreatDoor
namespace Go.Proofs.YtkghdieakpipkaaGreatDoor
open Go Go.RowKit

/-- What loops over functions lay for themselves. -/
def isBk : Obj → Bool
  | .loop _ => true
  | .deferred _ => true
  | _ => false
structure Kept (K : Nat → Obj → Prop) (W W' : World) : Prop where
  size : W.heap.size ≤ W'.heap.size
  same : ∀ k o, W.heap[k]? = some o → K k o → W'.heap[k]? = some o

section
variable {K : Nat → Obj → Prop} {W W' W'' : World}
theorem Kept.refl (K : Nat → Obj → Prop) (W : World) : Kept K W W := ⟨Nat.le_refl _, fun _ _ h _ => h⟩
theorem Kept.trans (h : Kept K W W') (k : Kept K W' W'') : Kept K W W'' := ⟨Nat.le_trans h.size k.size, fun i o ho hc => k.same i o (h.same i o ho hc) hc⟩
theorem Kept.of_tch {B : Nat} {T : Obj → Prop} (h : Tch B T W W') (hK : ∀ k o, K k o → k < B ∨ ¬ T o) : Kept K W W' := ⟨h.size, fun k o ho hk => h.block k o ho (hK k o hk)⟩
theorem Kept.of_below (h : Below W.heap.size W W') : Kept K W W' := ⟨h.size, fun k _ ho _ => (h.block k (Array.getElem?_eq_some_iff.1 ho).1).trans ho⟩
theorem Kept.alloc (h : Kept K W W') (o : Obj) : Kept K W (W'.alloc o) := h.trans (Kept.of_below ((Below.refl _ _).alloc (Nat.le_refl _) _))
theorem Kept.alloc1 (K : Nat → Obj → Prop) (W : World) (o : Obj) : Kept K W (W.alloc o) := (Kept.refl K W).alloc o
theorem Kept.drew (h : Kept K W W') : Kept K W W'.drew := ⟨h.size, h.same⟩
theorem Kept.drewN (h : Kept K W W') (n : Nat) : Kept K W (W'.drewN n) := ⟨h.size, h.same⟩
theorem Kept.mono {K' : Nat → Obj → Prop} (h : Kept K W W') (hk : ∀ k o, K' k o → K k o) : Kept K' W W' := ⟨h.size, fun k o ho hc => h.same k o ho (hk k o hc)⟩
theorem Kept.put {l : Nat} {o : Obj} (o' : Obj) (hl : W.heap[l]? = some o) (hn : ¬ K l o) : Kept K W (W.putObj l o') :=
  ⟨(grownBy_putObj' W l o').size, fun k o2 h2 hk => by
    by_cases e : k = l
    · subst e; rw [hl] at h2; cases h2; exact absurd hk hn
    · exact (World.putObj_heap_other e).trans h2⟩
/-- A store into a block that was not there in W. -/
theorem Kept.set_new (h : Kept K W W') {p : Addr} (hp : W.heap.size ≤ p.block) (u : Value) : Kept K W (W'.setCell p u) :=
  ⟨by simpa [World.setCell] using h.size, fun k o ho hk => (Below.heap_setCell W' p u k (by have := (Array.getElem?_eq_some_iff.1 ho).1; omega)).trans (h.same k o ho hk)⟩
theorem Blk.kept {g : Nat} {t : TypeId} {cs : Array Value} (h : Blk W g t cs) (hk : Kept K W W') (hc : K g (.cells cs t (0, 0))) : Blk W' g t cs := hk.same _ _ h hc
theorem tch_put {B : Nat} {T : Obj → Prop} {l : Nat} {o : Obj} (o' : Obj) (hB : B ≤ l) (hl : W.heap[l]? = some o) (ho : T o) : Tch B T W (W.putObj l o') :=
  Tch.of_grown (grownBy_putObj' W l o') hB hl ho
theorem Tch.lower {B B' : Nat} {T : Obj → Prop} (h : Tch B T W W') (hB : B' ≤ B) : Tch B' T W W' := ⟨h.os, h.tape, h.output, h.size, fun k o ho hc => h.block k o ho (hc.imp_left fun h => Nat.lt_of_lt_of_le h hB)⟩
end

/-- What the function leans on: what lay ahead of all, cells of some kinds, its own loops' records. -/
def Needs (C : Obj → Prop) (b0 B : Nat) (k : Nat) (o : Obj) : Prop := k < b0 ∨ C o ∨ (B ≤ k ∧ isBk o = true)

/-- The function calls what it is handed once for each number below N, in turn, until that says no. -/
def WalksAt (C T : Obj → Prop) (F : Fence) (n : Nat) (P : Program) (f : Nat) (fa lb : Array Value) (x : Nat → Array Value) (N : Nat) (b0 : Nat) (W : World) : Prop :=
  ∀ (l B : Nat) (K : Nat → Obj → Prop) (J : Nat → World → Prop) (Jx : World → Prop), b0 ≤ B → B ≤ W.heap.size → (∀ k o, Needs C b0 B k o → K k o) →
    (∀ k A A', J k A → Tch B T A A' → J k A') → (∀ A A', Jx A → Tch B T A A' → Jx A') →
    (∀ m k W1, k < N → J k W1 → YieldAt F m P l (x k) W1 fun e W2 => Kept K W1 W2 ∧ ((e = .returned (.bool true) ∧ J (k + 1) W2) ∨ (e = .returned (.bool false) ∧ Jx W2))) →
    J 0 W → CallsIn F n P f (fa ++ #[.func (.yield l) #[] #[]] ++ lb) W fun e W2 => (∃ v, e = .returned v) ∧ Kept K W W2 ∧ (J N W2 ∨ Jx W2)

theorem room_of_none {F : Fence} (hd : F.depth = none) (k : Nat) : F.room k := fun d h => by rw [hd] at h; cases h
theorem roundIn_anyDepth {F : Fence} (hd : F.depth = none) {m m' : Nat} {P : Program} {l : Nat} {f : FuncId} {tmps : Array Value} {assign body : Code} {w : World} {R : Ending → World → Prop}
    (h : RoundIn F m P l f tmps assign body w R) : RoundIn F m' P l f tmps assign body w R := ⟨h.1, fun c cs _ => h.2 c cs (room_of_none hd _)⟩

/-- How a round ends: it goes on, or it returns. -/
def RoundOut (K : Nat → Obj → Prop) (I : Nat → World → Prop) (Ix : World → Prop) (k : Nat) (W : World) (e : Exit) (_ : Act) (W2 : World) : Prop :=
  Kept K W W2 ∧ ((e = .normal ∧ I (k + 1) W2) ∨ (e = .ret ∧ Ix W2))

theorem range_rounds {C T : Obj → Prop} (hT : ∀ o, isBk o = true → T o) (hC : ∀ o, C o → isBk o = false)
    {F : Fence} {n : Nat} {P : Program} {g : Operand} {ps : Array Tmp} {assign body : Code} {Q : Exit → Act → World → Prop} {a : Act} {w : World}
    (hd : F.depth = none) (hro : F.round = none) {f : Nat} {fa lb : Array Value} (hg : a.eval g = .func (.func f) fa lb) (hF : F.fn f) (ef : ∀ args w, (callFunc f args).run P w = .ok (.enter f args) w)
    {x : Nat → Array Value} {N : Nat} (hx : ∀ k, (x k).size = ps.size) {b0 : Nat} (hb0 : b0 ≤ w.heap.size) (K : Nat → Obj → Prop) (hK : ∀ k o, Needs C b0 w.heap.size k o → K k o)
    (hv : ∀ o, WalksAt C T F (n - 1) P f fa lb x N b0 ((w.alloc (.deferred (some []))).alloc o))
    (I : Nat → World → Prop) (Ix : World → Prop) (hI : ∀ k A A', I k A → Tch w.heap.size T A A' → I k A') (hX : ∀ A A', Ix A → Tch w.heap.size T A A' → Ix A') (h0 : I 0 w)
    (Ax : Nat → Act → World → Prop) (hAx : ∀ k a' A A', Ax k a' A → Tch w.heap.size T A A' → Ax k a' A')
    (hassign : ∀ (l k : Nat) (W : World) (Kc : Act → World → Prop), k < N → I k W → (∀ a' W', Kept K W W' → I k W' → Ax k a' W' → Kc a' W') →
      assign.wpIn (F.inRound l) (n - 1 - 1) P (Exit.then Kc (fun _ _ _ => False)) { tmps := (ps.zip (x k)).foldl (fun t (p, v) => t.setIfInBounds p v) a.tmps, defers := [] } W)
    (hbody : ∀ (l k : Nat) (a' : Act) (W : World), k < N → I k W → Ax k a' W → body.wpIn (F.inRound l) (n - 1 - 1) P (RoundOut K I Ix k W) a' W)
    (hdone : ∀ (D : Nat) (W : World), w.heap.size ≤ D → Kept K w W → I N W → W.heap[D]? = some (.deferred (some [])) → Q .normal { a with defers := { target := .collected D, args := #[] } :: a.defers } W)
    (hstop : ∀ (D : Nat) (W : World), w.heap.size ≤ D → Kept K w W → Ix W → W.heap[D]? = some (.deferred (some [])) → Code.ret.wpIn F n P Q { a with defers := { target := .collected D, args := #[] } :: a.defers } W) :
    (Code.rangeFunc g ps assign body).wpIn F n P Q a w := by
  refine wpIn_rangeFunc fun fn hfn => ?_
  rw [hro]
  let R : LoopState → Option Code → Loop := fun st pe => { state := st, pending := pe, fn, tmps := a.tmps, params := ps, assign, body, defers := w.heap.size }
  let L := w.heap.size + 1
  let At (st : LoopState) (pe : Option Code) (W : World) : Prop := W.heap[L]? = some (.loop (R st pe)) ∧ W.heap[w.heap.size]? = some (.deferred (some []))
  have turn : ∀ {st pe st' pe' W}, At st pe W → At st' pe' (W.putObj L (.loop (R st' pe'))) := fun h =>
    ⟨World.putObj_heap_same (Array.getElem?_eq_some_iff.1 h.1).1, (World.putObj_heap_other (by show w.heap.size ≠ w.heap.size + 1; omega)).trans h.2⟩
  have begun : At .ready none ((w.alloc (.deferred (some []))).alloc (.loop (R .ready none))) := by
    refine ⟨?_, (Below.heap_alloc _ _ _ (by simp)).trans (World.alloc_heap_new w _)⟩
    have := World.alloc_heap_new (w.alloc (.deferred (some []))) (.loop (R .ready none))
    rwa [World.size_alloc] at this
  have hsz : ((w.alloc (.deferred (some []))).alloc (.loop (R .ready none))).heap.size = w.heap.size + 2 := by simp
  have tput : ∀ {st pe W} st' pe', At st pe W → Tch w.heap.size T W (W.putObj L (.loop (R st' pe'))) := fun st' pe' h => tch_put _ (Nat.le_succ _) h.1 (hT _ rfl)
  have kat : ∀ {st pe W W'}, At st pe W → Kept K W W' → At st pe W' := fun h hk => ⟨hk.same _ _ h.1 (hK _ _ (.inr (.inr ⟨Nat.le_succ _, rfl⟩))), hk.same _ _ h.2 (hK _ _ (.inr (.inr ⟨Nat.le_refl _, rfl⟩)))⟩
  have tat : ∀ {st pe W W'}, At st pe W → Tch (w.heap.size + 2) T W W' → At st pe W' := fun h ht => ⟨ht.block _ _ h.1 (.inl (Nat.lt_succ_self _)), ht.block _ _ h.2 (.inl (by omega))⟩
  -- what a call of yield keeps: all but this loop's own record
  let K' : Nat → Obj → Prop := fun k o => K k o ∧ ¬ (k = L ∧ isBk o = true)
  have kput : ∀ {st pe W} st' pe', At st pe W → Kept K' W (W.putObj L (.loop (R st' pe'))) := fun st' pe' h => Kept.put _ h.1 fun hk => hk.2 ⟨rfl, rfl⟩
  refine ⟨L, [{ target := .collected w.heap.size, args := #[] }], _, { target := .fn (.func f) lb, args := fa ++ #[.func (.yield L) #[] #[]] }, _, f, fa ++ #[.func (.yield L) #[] #[]] ++ lb, _,
    run_enterLoop_outer _ _ _ _ _, (?_ : _ = Result.ok _ ((w.alloc (.deferred (some []))).alloc (.loop (R .ready none)))), fun f' hf' => ?_, (?_ : _ = Result.ok _ ((w.alloc (.deferred (some []))).alloc (.loop (R .ready none)))), fun h => (by rw [hd] at h; cases h), ?_⟩
  · simp only [resolve, hg]
    simp [go_sem, R, L]
  · simp [Target.leads] at hf'
    subst hf'
    exact hF
  · simp [invoke, go_sem, ef]
  refine (hv (.loop (R .ready none)) L (w.heap.size + 2) K' (fun k W => I k W ∧ At .ready none W) (fun W => Ix W ∧ At .done (some .ret) W) (by omega) (by rw [hsz]; exact Nat.le_refl _) ?_ ?_ ?_ ?_ ⟨hI _ _ _ h0 (((Tch.refl _ _ _).alloc _).alloc _), begun⟩).mono ?_
  · rintro k o (h | h | ⟨h, hb⟩)
    · exact ⟨hK _ _ (.inl h), fun e => by have : k = w.heap.size + 1 := e.1; omega⟩
    · exact ⟨hK _ _ (.inr (.inl h)), fun e => by rw [hC o h] at e; exact absurd e.2 (by decide)⟩
    · exact ⟨hK _ _ (.inr (.inr ⟨by omega, hb⟩)), fun e => by have : k = w.heap.size + 1 := e.1; omega⟩
  · rintro k A A' ⟨hi, hat⟩ ht
    exact ⟨hI _ _ _ hi (ht.lower (by omega)), tat hat ht⟩
  · rintro A A' ⟨hi, hat⟩ ht
    exact ⟨hX _ _ hi (ht.lower (by omega)), tat hat ht⟩
  · -- one round
    rintro m k W hk ⟨hi, hat⟩
    refine ⟨fn, _, assign, body, run_yield (r := R .ready none) hat.1 (hx k), roundIn_anyDepth hd (roundIn_of_wpIn (n := n - 1 - 1) hfn (hassign L k W _ hk hi ?_))⟩
    intro a' Wa hka hia hax
    have hata := kat hat hka
    refine ⟨_, run_beginRound (r := R .ready none) hata.1 rfl, ?_⟩
    have hb := turn (st' := .busy) (pe' := none) hata
    have t1 := tput .busy none hata
    have k1 : Kept K' W (Wa.putObj L (.loop (R .busy none))) := (hka.mono fun _ _ h => h.1).trans (kput _ _ hata)
    refine wpIn_mono (hbody L k a' _ hk (hI k _ _ hia t1) (hAx k a' _ _ hax t1)) fun e a3 W3 hp => ?_
    obtain ⟨hk3, hp⟩ := hp
    have h3 : At .busy none W3 := kat hb hk3
    rcases hp with ⟨rfl, hi3⟩ | ⟨rfl, hi3⟩
    · exact ⟨_, _, run_endRound none h3.1, (k1.trans (hk3.mono fun _ _ h => h.1)).trans (kput .ready none h3), .inl ⟨rfl, hI _ _ _ hi3 (tput .ready none h3), turn h3⟩⟩
    · exact ⟨_, _, run_endRound (some .ret) h3.1, (k1.trans (hk3.mono fun _ _ h => h.1)).trans (kput .done (some .ret) h3), .inr ⟨rfl, hX _ _ hi3 (tput .done (some .ret) h3), turn h3⟩⟩
  · -- behind it
    have back : ∀ {st pe W} st' pe', At st pe W → Kept K' ((w.alloc (.deferred (some []))).alloc (.loop (R .ready none))) W → Kept K w (W.putObj L (.loop (R st' pe'))) := fun st' pe' h hk => by
      have hk2 := hk.trans (kput st' pe' h)
      have hn : Kept K w ((w.alloc (.deferred (some []))).alloc (.loop (R .ready none))) := ((Kept.refl _ _).alloc _).alloc _
      refine ⟨Nat.le_trans hn.size hk2.size, fun k o ho hc => hk2.same k o (hn.same k o ho hc) ⟨hc, fun e => ?_⟩⟩
      have h1 : k = w.heap.size + 1 := e.1
      have := (Array.getElem?_eq_some_iff.1 ho).1
      omega
    rintro e W2 ⟨⟨v, rfl⟩, hk2, (⟨hi, hat⟩ | ⟨hi, hat⟩)⟩
    · exact ⟨none, _, run_endLoop (r := R .ready none) hat.1 (by simp [R]), hdone _ _ (Nat.le_refl _) (back _ _ hat hk2) (hI _ _ _ hi (tput _ _ hat)) (turn (st' := .exhausted) (pe' := none) hat).2⟩
    · exact ⟨some .ret, _, run_endLoop (r := R .done (some .ret)) hat.1 (by simp [R]), hstop _ _ (Nat.le_refl _) (back _ _ hat hk2) (hX _ _ hi (tput _ _ hat)) (turn (st' := .exhausted) (pe' := some .ret) hat).2⟩
end Go.Proofs.YtkghdieakpipkaaGreatDoor
