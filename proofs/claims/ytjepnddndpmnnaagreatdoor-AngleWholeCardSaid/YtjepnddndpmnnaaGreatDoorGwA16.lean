/-
  A list of events that a call has made: appended to, read; it and a Check keep clear of each other.
  Events that wait, behind some that were taken: a row that is cut at its left end; an event appended to it.
  A region that draws its order, within a round of a range over a function: by the laws for a region that stands alone. No program is read here.
  A region that draws its order, by hand: several operations that may come up; what is free of the facts. No program is read here.
-/
import Derived.Test.YtjepnddndpmnnaaGreatDoorGwA14
import Derived.Deep.AppendSrc
import Derived.Test.YtjepnddndpmnnaaGreatDoorGwA11
import Derived.RangeFuncFrom
import Derived.RangeFuncNested
import Derived.RangeFuncCalls
import Derived.RangeFuncLeaves
import Derived.OrdersIn
import Derived.OrdersHeld
import Derived.Deep.RegionHeld3
namespace Go.Proofs.YtjepnddndpmnnaaGreatDoor
open Go.RowKit Go.Maps
set_option maxRecDepth 100000
set_option linter.unusedSectionVars false
variable [Tab] [Fo]

def evc (x : Ev) : List Value := [.int .i64 x.k, .string x.t, .string x.v]
def evcs (l : List Ev) : List Value := l.flatMap evc
theorem evcs_len (l : List Ev) : (evcs l).length = l.length * 3 := by
  induction l with
  | nil => rfl
  | cons x l ih => simp only [evcs, List.flatMap_cons, List.length_append, List.length_cons] at ih ⊢; rw [ih]; simp [evc]; omega
theorem evcs_get : ∀ (l : List Ev) (k : Nat) (h : k < l.length) (j : Nat) (_ : j < 3), (evcs l)[k * 3 + j]? = (evc l[k])[j]?
  | x :: l, 0, _, j, hj => by
    simp only [evcs, List.flatMap_cons]
    rw [List.getElem?_append_left (by simp [evc]; omega)]
    simp
  | x :: l, k + 1, h, j, hj => by
    have ih := evcs_get l k (by simpa using h) j hj
    simp only [evcs, List.flatMap_cons] at ih ⊢
    rw [List.getElem?_append_right (by simp [evc]; omega), show (k + 1) * 3 + j - (evc x).length = k * 3 + j by simp [evc]; omega, ih]
    simp
theorem evcs_snoc (l : List Ev) (x : Ev) : evcs (l ++ [x]) = evcs l ++ evc x := by simp [evcs]
theorem Tryz.infoEv : (Tryz.prog.info? 38).map (fun i => (i.zero, i.size, i.bytes)) = some (some (.agg #[.int .i64 0, .string ⟨#[]⟩, .string ⟨#[]⟩]), 3, 40) := by kernel_rfl

def ERow (w : World) (base : Nat) (v : Value) (l : List Ev) : Prop := w.ownsRow base 38 3 v l.length (evcs l)
def eObj : Obj → Prop
  | .cells _ t _ => t = 38
  | _ => False
theorem ERow.nil (w : World) (base : Nat) : ERow w base (.slice none 0 0) [] := World.ownsRow_nil w base _ 3
theorem ERow.read {w : World} {base : Nat} {v : Value} {l : List Ev} (h : ERow w base v l) : ERead w v l := by
  have hr := h
  unfold ERow at hr
  rcases hr.2 with ⟨rfl, h0⟩ | ⟨r, c, cur, rfl, hg, hh, hnc, hm, hs, ht⟩
  · exact ⟨none, 0, by rw [h0], by omega, Nat.zero_le _, fun hp => by omega⟩
  · refine ⟨some ⟨r, 0, none⟩, c, rfl, hnc, hm, fun _ => ⟨r, 0, rfl, fun j hj => ?_⟩⟩
    have hat : ∀ i, i < 3 → w.cell? ⟨r, j * 3 + i, none⟩ = (evc l[j])[i]? := by
      intro i hi
      rw [Blk.cell hh, ← evcs_get l j hj i hi, ← ht, List.getElem?_take_of_lt (by omega), Array.getElem?_toList]
    rw [Nat.zero_add]
    have h0 := hat 0 (by omega)
    have h1 := hat 1 (by omega)
    have h2 := hat 2 (by omega)
    exact ⟨h0, h1, h2⟩
theorem ERow.below {w w' : World} {base : Nat} {v : Value} {l : List Ev} (h : ERow w base v l) (hb : Below w.heap.size w w') : ERow w' base v l :=
  row_tch (base := base) (p := fun _ => False) h (Tch.of_below hb) (fun _ _ h => h)
theorem ERow.of_c {w w' : World} {base : Nat} {v : Value} {l : List Ev} (h : ERow w base v l) (ht : Tch base cObj w w') : ERow w' base v l :=
  row_tch h ht (fun _ _ => by simp only [cObj]; decide)
theorem CAt.of_e {w w' : World} {base g : Nat} {st : List Pt} (h : CAt w base g st) (ht : Tch base eObj w w') : CAt w' base g st :=
  h.tch ht (fun cs t fr h hc => by simp only [eObj] at hc; rcases h with rfl | rfl <;> exact absurd hc (by decide)) (fun _ _ hc => hc)
theorem ERow.shape {w : World} {base : Nat} {v : Value} {l : List Ev} (h : ERow w base v l) : ∃ A c, v = .slice A l.length c := by
  rcases h.2 with ⟨rfl, h0⟩ | ⟨g, cap, cur, rfl, _⟩
  · exact ⟨_, _, by rw [h0]⟩
  · exact ⟨_, _, rfl⟩
theorem ERow.alloc {w : World} {base : Nat} {v : Value} {l : List Ev} (h : ERow w base v l) (o : Obj) : ERow (w.alloc o) base v l := World.ownsRow.alloc h o
theorem erow_push {w w' : World} {base : Nat} {v v' : Value} {l : List Ev} {x : Ev} {o : Obj} (h : ERow w base v l) (hf : NF v) (hg : (w.alloc o).grownBy w' v.ownBlock)
    (hr : w'.ownsRow base 38 3 v' (l.length + 1) (evcs l ++ [.int .i64 x.k, .string x.t, .string x.v])) : ERow w' base v' (l ++ [x]) ∧ Tch base eObj w w' := by
  refine ⟨?_, ((Tch.refl base eObj w).alloc o).trans (Tch.of_row (h.alloc o) hg (Nat.le_refl _) hf (fun _ => rfl))⟩
  unfold ERow
  rw [evcs_snoc, List.length_append]
  exact hr

end Go.Proofs.YtjepnddndpmnnaaGreatDoor
namespace Go.Proofs.YtjepnddndpmnnaaGreatDoor
open Go.RowKit Go.Maps
set_option maxRecDepth 100000
set_option linter.unusedSimpArgs false
set_option linter.unusedVariables false
set_option linter.unusedSectionVars false
set_option linter.unusedSectionVars false
variable [Tab] [Fo]

def WE (w : World) (base : Nat) (v : Value) (l : List Ev) : Prop :=
  (v = .slice none 0 0 ∧ l = []) ∨
  ∃ g d cap cur, v = .slice (some ⟨g, d * 3, none⟩) l.length cap ∧ base ≤ g ∧ w.heap[g]? = some (.cells cur 38 (0, 0)) ∧ l.length ≤ cap ∧ cap ≤ maxLen ∧ (d + cap) * 3 ≤ cur.size ∧ ∀ j, j < l.length * 3 → cur[d * 3 + j]? = (evcs l)[j]?
section
variable {w w' : World} {base : Nat} {v : Value} {l : List Ev}
theorem WE.of_erow (h : ERow w base v l) : WE w base v l := by
  unfold ERow at h
  rcases h.2 with ⟨rfl, h0⟩ | ⟨g, cap, cur, rfl, hg, hh, hnc, hm, hs, ht⟩
  · exact .inl ⟨rfl, List.eq_nil_of_length_eq_zero h0⟩
  · refine .inr ⟨g, 0, cap, cur, by rw [Nat.zero_mul], hg, hh, hnc, hm, by omega, fun j hj => ?_⟩
    rw [Nat.zero_mul, Nat.zero_add, ← ht, List.getElem?_take_of_lt hj, Array.getElem?_toList]
theorem WE.obj (h : WE w base v l) {g : Nat} (hg : v.ownBlock = some g) : base ≤ g ∧ g < w.heap.size ∧ ∃ cur, w.heap[g]? = some (.cells cur 38 (0, 0)) := by
  rcases h with ⟨rfl, _⟩ | ⟨g', d, cap, cur, rfl, hb, hh, _⟩
  · cases hg
  · cases hg
    exact ⟨hb, (Array.getElem?_eq_some_iff.1 hh).1, cur, hh⟩
theorem WE.frame (h : WE w base v l) (hk : ∀ g o, v.ownBlock = some g → w.heap[g]? = some o → w'.heap[g]? = some o) : WE w' base v l := by
  rcases h with h | ⟨g, d, cap, cur, h1, h2, h3, r⟩
  · exact .inl h
  · exact .inr ⟨g, d, cap, cur, h1, h2, hk g _ (by rw [h1]; rfl) h3, r⟩
theorem WE.below (h : WE w base v l) (hb : Below w.heap.size w w') : WE w' base v l := h.frame fun g o _ ho => (hb.block g (Array.getElem?_eq_some_iff.1 ho).1).trans ho
theorem WE.alloc (h : WE w base v l) (o : Obj) : WE (w.alloc o) base v l := h.below ((Below.refl _ _).alloc (Nat.le_refl _) _)
theorem WE.shape (h : WE w base v l) : ∃ A c, v = .slice A l.length c := by
  rcases h with ⟨rfl, rfl⟩ | ⟨g, d, cap, cur, rfl, _⟩
  · exact ⟨_, _, rfl⟩
  · exact ⟨_, _, rfl⟩
theorem WE.low {b : Nat} (h : WE w base v l) (hb : b ≤ base) : WE w b v l := by
  rcases h with h | ⟨g, d, cap, cur, h1, h2, r⟩
  · exact .inl h
  · exact .inr ⟨g, d, cap, cur, h1, Nat.le_trans hb h2, r⟩
theorem WE.read (h : WE w base v l) : ERead w v l := by
  rcases h with ⟨rfl, rfl⟩ | ⟨g, d, cap, cur, rfl, hg, hh, hnc, hm, hs, hj⟩
  · exact ⟨none, 0, rfl, Nat.le_refl _, Nat.zero_le _, fun hp => absurd hp (by simp)⟩
  · refine ⟨some ⟨g, d * 3, none⟩, cap, rfl, hnc, hm, fun _ => ⟨g, d * 3, rfl, fun j hjl => ?_⟩⟩
    have hG : Blk w g 38 cur := hh
    have hat : ∀ i, i < 3 → w.cell? ⟨g, d * 3 + j * 3 + i, none⟩ = (evc l[j])[i]? := by
      intro i hi
      rw [hG.cell, ← evcs_get l j hjl i hi, ← hj (j * 3 + i) (by omega), Nat.add_assoc]
    have h0 := hat 0 (by omega)
    have h1 := hat 1 (by omega)
    have h2 := hat 2 (by omega)
    exact ⟨h0, h1, h2⟩
end

section
variable [Fo] {w : World}
theorem set3_get (cur : Array Value) (k : Nat) (a b c : Value) (hk : k + 3 ≤ cur.size) (j : Nat) :
    (((cur.setIfInBounds k a).setIfInBounds (k + 1) b).setIfInBounds (k + 1 + 1) c)[j]? = if j < k then cur[j]? else if j < k + 3 then [a, b, c][j - k]? else cur[j]? := by
  simp only [Array.getElem?_setIfInBounds, Array.size_setIfInBounds]
  by_cases h1 : j < k
  · rw [if_neg (by omega), if_neg (by omega), if_neg (by omega), if_pos h1]
  · rw [if_neg h1]
    by_cases h2 : j < k + 3
    · rw [if_pos h2]
      have : j = k ∨ j = k + 1 ∨ j = k + 1 + 1 := by omega
      rcases this with rfl | rfl | rfl
      · rw [if_neg (by omega), if_neg (by omega), if_pos rfl, if_pos (by omega)]; simp
      · rw [if_neg (by omega), if_pos rfl, if_pos (by omega)]; simp
      · rw [if_pos rfl, if_pos (by omega)]; simp [Nat.add_assoc]
    · rw [if_neg h2, if_neg (by omega), if_neg (by omega), if_neg (by omega)]
theorem run_append_we (base : Nat) (v : Value) (l : List Ev) (h : WE w base v l) (x : Ev) (A : Addr) (ty : TypeId) (hc : ∀ j u, [Value.int .i64 x.k, .string x.t, .string x.v][j]? = some u → w.cell? (A.add j) = some u)
    (hl : l.length ≤ 1000000) (hbase : base ≤ w.heap.size) :
    ∃ v' w', (Builtin.append_ #[24, 24] ty #[v, .slice (some A) 1 1]).run Tryz.prog w = .ok v' w' ∧ WE w' base v' (l ++ [x]) ∧ w.grownBy w' v.ownBlock ∧ NB w v v' := by
  obtain ⟨i, hi, hz, hsize, hby⟩ := info_parts Tryz.infoEv
  have h1 : ∀ u ∈ [Value.int .i64 x.k, .string x.t, .string x.v], u.oneCell' = true := by simp [Value.oneCell']
  have hsrc : Src Tryz.prog i.size 24 (.slice (some A) 1 1) 1 [.int .i64 x.k, .string x.t, .string x.v] w := Src.ofSlice w Tryz.underlying24 A 1 1 _ (by rw [hsize]; rfl) hc h1
  have nilcase : v = .slice none 0 0 → l = [] → ∃ v' w', (Builtin.append_ #[24, 24] ty #[v, .slice (some A) 1 1]).run Tryz.prog w = .ok v' w' ∧ WE w' base v' (l ++ [x]) ∧ w.grownBy w' v.ownBlock ∧ NB w v v' := by
    rintro rfl rfl
    obtain ⟨v', w', hr, h2, h3, _, h5⟩ := run_append_own_at (P := Tryz.prog) w base 24 ty 38 i _ 3 40 Tryz.underlying24 hi hz hsize hby rfl (by decide) (.slice none 0 0) 0 [] (World.ownsRow_nil w base _ 3) A 1 1 _ rfl hc h1 (by simp [maxLen]) (by decide) hbase
    refine ⟨v', w', hr, WE.of_erow ?_, h3, h5.imp id fun e => ⟨_, e, Nat.le_refl _⟩⟩
    exact h2
  rcases h with ⟨hv, h0⟩ | ⟨g, d, cap, cur, rfl, hg, hh, hnc, hm, hs, hj⟩
  · exact nilcase hv h0
  · have hG : Blk w g 38 cur := hh
    by_cases hroom : l.length + 1 ≤ cap
    · have hfit : d * 3 + l.length * 3 + 3 ≤ cur.size := by omega
      have hr := run_append_room_src (P := Tryz.prog) w 24 24 ty 38 i Tryz.underlying24 hi g (d * 3) l.length cap (.slice (some A) 1 1) 1 _ hsrc hroom
        (fun j hjl => by rw [hsize, hG.cell]; simp at hjl ⊢; omega) (fun j _ => by rw [hsize]; exact hG.frozen _)
      rw [hsize] at hr
      have hG3 := ((hG.set_ (d * 3 + l.length * 3) (.int .i64 x.k)).set_ (d * 3 + l.length * 3 + 1) (.string x.t)).set_ (d * 3 + l.length * 3 + 1 + 1) (.string x.v)
      refine ⟨_, _, hr, .inr ⟨g, d, cap, _, by rw [List.length_append]; rfl, hg, hG3, by simpa using hroom, hm, by simpa using hs, fun j hjl => ?_⟩, ?_, .inl rfl⟩
      · rw [set3_get _ _ _ _ _ (by omega), evcs_snoc]
        rw [List.length_append, List.length_singleton] at hjl
        by_cases h5 : j < l.length * 3
        · rw [if_pos (by omega), hj j h5, List.getElem?_append_left (by rw [evcs_len]; exact h5)]
        · rw [if_neg (by omega), if_pos (by omega), List.getElem?_append_right (by rw [evcs_len]; omega), evcs_len]
          rw [show d * 3 + j - (d * 3 + l.length * 3) = j - l.length * 3 by omega]
          rfl
      · exact only_setCell (only_setCell (only_setCell (World.grownBy.refl w (some g)) (.inl rfl) _) (.inl rfl) _) (.inl rfl) _
    · have holds : ∀ j u, (evcs l)[j]? = some u → w.cell? ((⟨g, d * 3, none⟩ : Addr).add j) = some u := by
        intro j u hu
        have hjl : j < l.length * 3 := by have := (List.getElem?_eq_some_iff.1 hu).1; rwa [evcs_len] at this
        rw [show (⟨g, d * 3, none⟩ : Addr).add j = ⟨g, d * 3 + j, none⟩ by unfold Addr.add; split <;> simp_all, hG.cell, hj j hjl, hu]
      have hr := run_append_grow (P := Tryz.prog) w 24 ty 38 i _ Tryz.underlying24 hi hz ⟨g, d * 3, none⟩ l.length cap (evcs l) (by rw [hsize, evcs_len]) holds A 1 1 _ (by rw [hsize]; rfl) hc (by omega) (by omega) (growslice_fits (by omega) (by rw [hby]; omega))
      have hge := grownCap_ge w (l.length + 1) cap 38
      have hcm := grownCap_le_maxLen w (l.length + 1) cap 38 (by simp only [maxLen]; omega)
      refine ⟨_, _, hr, WE.of_erow ?_, ⟨rfl, rfl, rfl, by simp, fun k hk _ => heap_alloc_old w.drew _ hk⟩, .inr ⟨_, rfl, Nat.le_refl _⟩⟩
      unfold ERow
      rw [List.length_append, List.length_singleton, evcs_snoc]
      refine ⟨by rw [List.length_append, evcs_len]; simp [evc]; omega, .inr ⟨w.heap.size, _, _, rfl, hbase, heap_alloc_new w.drew _, hge, hcm, ?_, ?_⟩⟩
      · simp only [Array.size_append, List.size_toArray, size_zeroCells, evcs_len, List.length_cons, List.length_nil]
        rw [show (Value.agg #[.int .i64 0, .string ⟨#[]⟩, .string ⟨#[]⟩]).cells.size = 3 from rfl]
        omega
      · simp only [Array.toList_append, List.append_assoc]
        rw [← List.append_assoc]
        exact List.take_left' (by rw [List.length_append, evcs_len]; simp; omega)
end
end Go.Proofs.YtjepnddndpmnnaaGreatDoor
namespace Go.Proofs.YtjepnddndpmnnaaGreatDoor
open Go Go.RowKit
set_option linter.unusedSectionVars false
variable [Fo]

section
variable {P : Program} {ops : Array Oper} {Q : Exit → Act → World → Prop} {md : Region.Mode}
def noDefer (o : Oper) : Bool := match o.op with | .defer _ => false | _ => true
theorem rows_round {l n : Nat} {row : String} {args : Array Value} {w : World} {R : Value → World → Prop} (h : Rows P row args w R) : RowsIn (Fence.wide.inRound l) n P row args w R :=
  fun c cs _ => let ⟨v, w', r, s⟩ := h c cs; ⟨v, w', r, stepsIn_wide.2 s⟩
theorem op_round {l n : Nat} {o : Oper} {a : Act} {w : World} {K : Act → World → Prop} (hd : noDefer o = true) (h : o.wp P a w K Q) : o.wpIn (Fence.wide.inRound l) n P a w K Q := by
  unfold Oper.wp at h
  unfold Oper.wpIn
  refine ⟨fun _ _ => trivial, ?_⟩
  have hs : Oper.semAt (Fence.wide.inRound l).round a.eval o = execOp a.eval o := Oper.semAt_some l a.eval o (fun c hc => by simp [noDefer, hc] at hd)
  rw [hs]
  generalize (execOp a.eval o).run P w = r at *
  cases r with
  | ok x w' =>
    cases x <;> simp only [Oper.upon, Oper.uponIn] at h ⊢ <;>
      first
        | exact h
        | exact ⟨fun h => (by cases h), CallsIn.inRound l (callsIn_wide.2 h)⟩
        | exact ⟨fun h => (by cases h), rows_round h⟩
        | exact h.elim
  | halt x w' => cases x <;> simp only [Oper.upon, Oper.uponIn] at h ⊢ <;> exact h
theorem any_round {l n : Nat} (hd : ops.all noDefer = true) (hL : ¬ LetsOut Q) : ∀ (fuel : Nat) (listed : Array Bool) (a : Act) (w : World), wpAny P md ops Q fuel listed a w → wpAnyIn (Fence.wide.inRound l) n P md ops Q fuel listed a w
  | 0, _, _, _, h => h
  | fuel + 1, _, _, _, h => ⟨h.1, fun i hi => by
    have h2 := h.2 i hi
    unfold wpOp at h2
    unfold wpOpIn
    cases ho : ops[i]? with
    | none => rw [ho] at h2; exact any_round hd hL fuel _ _ _ h2
    | some o =>
      rw [ho] at h2
      have hdo : noDefer o = true := by
        obtain ⟨hi', rfl⟩ := Array.getElem?_eq_some_iff.1 ho
        exact (Array.all_eq_true.1 hd) i hi'
      simp only at h2 ⊢
      split at h2
      · rename_i hw
        rw [if_pos hw]
        rcases h2 with h2 | ⟨_, h2⟩
        · exact op_round hdo (Oper.wp_mono (fun a w h => any_round hd hL fuel _ a w h) h2)
        · exact absurd h2 hL
      · rename_i hw
        rw [if_neg hw]
        exact ⟨fun _ _ => trivial, any_round hd hL fuel _ _ _ h2⟩⟩
/-- Whatever order is picked: S holds behind every operation but the last, E. -/
def wpAnyG (P : Program) (md : Region.Mode) (ops : Array Oper) (Q : Exit → Act → World → Prop) (Es : List Nat) (S : World → Prop) : Nat → Array Bool → Act → World → Prop
  | 0, listed, a, w => Region.ready md ops listed = [] ∧ Q .normal a w
  | fuel + 1, listed, a, w =>
    (Region.ready md ops listed = [] → Q .normal a w) ∧
    ∀ i ∈ Region.ready md ops listed, wpOp P ops Q i (fun a' w' => (i ∉ Es → S w') ∧ wpAnyG P md ops Q Es S fuel (listed.setIfInBounds i true) a' w') a w
variable {S : World → Prop} {Es : List Nat}
theorem any_of_g : ∀ (fuel : Nat) (listed : Array Bool) (a : Act) (w : World), wpAnyG P md ops Q Es S fuel listed a w → wpAny P md ops Q fuel listed a w
  | 0, _, _, _, h => h
  | fuel + 1, _, _, _, h => ⟨h.1, fun i hi => wpOp_mono (fun a' w' h' => any_of_g fuel _ a' w' h'.2) (h.2 i hi)⟩
/-- E waits for i. -/
def waitsFor (md : Region.Mode) (ops : Array Oper) (E i : Nat) : Bool := match ops[E]? with | some o => o.after.any fun e => Region.binds md e && decide (e.on = i) | none => true
theorem g_first {i : Nat} {oi : Oper} {v : Value} (hi : ops[i]? = some oi) (hsel : ∀ (j : Nat) (o : Oper) cs b, ops[j]? = some o → o.op ≠ .select cs b) (hE : (Es.all fun E => waitsFor md ops E i) = true)
    (hQ : ∀ c a w, Q (.panic c) (a.put oi.dst v) w → Q (.panic c) a w) :
    ∀ (fuel : Nat) (listed : Array Bool) (a : Act) (w : World),
      (∀ j oj, ops[j]? = some oj → j ≠ i → listed.getD j true = false → (∀ e ∈ oj.after, Region.binds md e = true → e.on ≠ i) → oi.apart ops oj = true) →
      i ∈ Region.ready md ops listed → YieldsIf P ops S oi v a → S w →
      wpAnyG P md ops Q Es S fuel (listed.setIfInBounds i true) (a.put oi.dst v) w → wpAnyG P md ops Q Es S (fuel + 1) listed a w := by
  intro fuel
  induction fuel with
  | zero =>
    intro listed a w _ hr hy hS H
    refine ⟨fun h => (by rw [h] at hr; cases hr), fun j hj => ?_⟩
    by_cases hji : j = i
    · subst hji; exact hy.wpOp hi hS ⟨fun _ => hS, H⟩
    · have := ready_mono hj hji
      rw [H.1] at this
      cases this
  | succ fuel ih =>
    intro listed a w hfree hr hy hS H
    refine ⟨fun h => (by rw [h] at hr; cases hr), fun j hj => ?_⟩
    by_cases hji : j = i
    · subst hji; exact hy.wpOp hi hS ⟨fun _ => hS, H⟩
    · have h1 := H.2 j (ready_mono hj hji)
      obtain ⟨hjun, oj, hoj, hall⟩ := mem_ready.1 hj
      have hnot : ∀ e ∈ oj.after, Region.binds md e = true → e.on ≠ i := fun e he hb heq => by
        have h1 := hall e he hb
        have h0 := (mem_ready.1 hr).1
        rw [heq] at h1
        rcases Nat.lt_or_ge i listed.size with h' | h'
        · simp [h'] at h0 h1; rw [h0] at h1; cases h1
        · simp [Array.getElem?_eq_none h'] at h1
      have hjE : j ∉ Es := by
        intro hm
        have hE := List.all_eq_true.1 hE j hm
        unfold waitsFor at hE
        rw [hoj] at hE
        simp only [Array.any_eq_true, Bool.and_eq_true, decide_eq_true_iff] at hE
        obtain ⟨q, hq, hb, he⟩ := hE
        exact hnot _ (Array.getElem_mem hq) hb he
      have h2 := wpOp_putIf hoj (hfree j oj hoj hji hjun hnot) (fun cs b => hsel i oi cs b hi) (fun cs b => hsel j oj cs b hoj) hQ hy h1
      have hfree' : ∀ k ok, ops[k]? = some ok → k ≠ i → (listed.setIfInBounds j true).getD k true = false →
          (∀ e ∈ ok.after, Region.binds md e = true → e.on ≠ i) → oi.apart ops ok = true := fun k ok hk hki hun hno => by
        refine hfree k ok hk hki ?_ hno
        by_cases hjk : j = k
        · subst hjk; exact hjun
        · rw [getD_set_ne true hjk] at hun; exact hun
      refine wpOp_mono (fun a' w' h3 => ⟨fun _ => h3.2.1 hjE, ih (listed.setIfInBounds j true) a' w' hfree' (ready_mono hr (Ne.symm hji)) h3.1 (h3.2.1 hjE) ?_⟩) h2
      rw [Array.setIfInBounds_comm _ _ hji]
      exact h3.2.2
theorem g_take {i : Nat} {oi : Oper} {v : Value} {fuel : Nat} {listed : Array Bool} {a : Act} {w : World} (hi : ops[i]? = some oi)
    (hs : Region.noSelect ops = true) (hE : (Es.all fun E => waitsFor md ops E i) = true) (hf : Region.free md ops listed i = true) (hr : (Region.ready md ops listed).contains i = true)
    (hQ : ∀ c a w, Q (.panic c) (a.put oi.dst v) w → Q (.panic c) a w) (hy : YieldsIf P ops S oi v a) (hS : S w)
    (h : wpAnyG P md ops Q Es S fuel (listed.setIfInBounds i true) (a.put oi.dst v) w) : wpAnyG P md ops Q Es S (fuel + 1) listed a w :=
  g_first hi (Region.noSelect_spec hs) hE hQ fuel listed a w (Region.free_spec hi hf) (by simpa using hr) hy hS h
theorem g_done {listed : Array Bool} {a : Act} {w : World} (hr : Region.ready md ops listed = []) (h : Q .normal a w) : ∀ fuel, wpAnyG P md ops Q Es S fuel listed a w
  | 0 => ⟨hr, h⟩
  | _ + 1 => ⟨fun _ => h, by rw [hr]; simp⟩
/-- One operation alone may come up. -/
theorem g_one {i : Nat} {o : Oper} {fuel : Nat} {listed : Array Bool} {a : Act} {w : World} (hr : Region.ready md ops listed = [i]) (ho : ops[i]? = some o)
    (h : ∀ K' : Act → World → Prop, Shut (∀ a w, (i ∉ Es → S w) → ((i ∉ Es → S w) → wpAnyG P md ops Q Es S fuel (listed.setIfInBounds i true) a w) → K' a w) → if Region.wanted o (yielded ops a.tmps) = true then Oper.wp P o a w K' Q else K' (a.put o.dst undef) w) :
    wpAnyG P md ops Q Es S (fuel + 1) listed a w := by
  refine ⟨fun h0 => (by rw [hr] at h0; cases h0), fun j hj => ?_⟩
  rw [hr] at hj
  obtain rfl : j = i := by simpa using hj
  exact wpOp_step ho (fun K' hK => h K' (fun a w hS hW => hK a w ⟨hS, hW hS⟩))
/-- The region, from the world behind the draw, its last operation free of S. -/
theorem region_g_in {l n id : Nat} (Es : List Nat) {S : World → Prop} {a : Act} {w : World} (hm : P.follows .mixedOrders = true) (hd : ops.all noDefer = true) (hS : S w.drew)
    (h : S w.drew → wpAnyG P .any ops (fun e a w => e = .normal ∧ Q .normal a w) Es S ops.size (Array.replicate ops.size false) a w.drew) : (Code.region id ops true).wpIn (Fence.wide.inRound l) n P Q a w := by
  have h1 : (Code.region id ops true).wpIn (Fence.wide.inRound l) n P (fun e a w => e = .normal ∧ Q .normal a w) a w :=
    wpIn_region_any hm (any_round hd (fun ⟨_, _, hx⟩ => by cases hx.1) _ _ _ _ (any_of_g _ _ _ _ (h hS)))
  exact wpIn_mono h1 fun e a w h => by obtain ⟨rfl, h⟩ := h; exact h
/-- The same in a frame that is no round's. -/
theorem region_g {id : Nat} (Es : List Nat) {S : World → Prop} {a : Act} {w : World} (hm : P.follows .mixedOrders = true) (hS : S w.drew)
    (h : S w.drew → wpAnyG P .any ops (fun e a w => e = .normal ∧ Q .normal a w) Es S ops.size (Array.replicate ops.size false) a w.drew) : (Code.region id ops true).wp P Q a w :=
  wp_mono (wp_region_any hm (any_of_g _ _ _ _ (h hS))) fun e a w h => by obtain ⟨rfl, h⟩ := h; exact h
/-- The region, from the world behind the draw. -/
theorem region_held_in {l n id : Nat} {S : World → Prop} {a : Act} {w : World} (hm : P.follows .mixedOrders = true) (hd : ops.all noDefer = true) (hS : S w.drew)
    (h : S w.drew → wpAnyH P .any ops (fun e a w => e = .normal ∧ Q .normal a w) S ops.size (Array.replicate ops.size false) a w.drew) : (Code.region id ops true).wpIn (Fence.wide.inRound l) n P Q a w := by
  have h1 : (Code.region id ops true).wpIn (Fence.wide.inRound l) n P (fun e a w => e = .normal ∧ Q .normal a w) a w :=
    wpIn_region_any hm (any_round hd (fun ⟨_, _, hx⟩ => by cases hx.1) _ _ _ _ (wpAny_of_held _ _ _ _ (h hS)))
  exact wpIn_mono h1 fun e a w h => by obtain ⟨rfl, h⟩ := h; exact h
end
end Go.Proofs.YtjepnddndpmnnaaGreatDoor
namespace Go.Proofs.YtjepnddndpmnnaaGreatDoor
open Go Go.RowKit
set_option maxRecDepth 100000
set_option linter.unusedSectionVars false
variable [Fo]

section
variable {P : Program} {ops : Array Oper} {Q : Exit → Act → World → Prop} {md : Region.Mode} {S : World → Prop} {Es : List Nat}
/-- One of several operations comes up. -/
def GStep (P : Program) (md : Region.Mode) (ops : Array Oper) (Q : Exit → Act → World → Prop) (Es : List Nat) (S : World → Prop) (fuel : Nat) (listed : Array Bool) (a : Act) (w : World) (i : Nat) : Prop :=
  ∃ o, ops[i]? = some o ∧ ∀ K' : Act → World → Prop, Shut (∀ a w, (i ∉ Es → S w) → ((i ∉ Es → S w) → wpAnyG P md ops Q Es S fuel (listed.setIfInBounds i true) a w) → K' a w) → if Region.wanted o (yielded ops a.tmps) = true then Oper.wp P o a w K' Q else K' (a.put o.dst undef) w
theorem g_all {rs : List Nat} {fuel : Nat} {listed : Array Bool} {a : Act} {w : World} (hr : Region.ready md ops listed = rs) (hne : rs ≠ []) (h : ∀ i ∈ rs, GStep P md ops Q Es S fuel listed a w i) : wpAnyG P md ops Q Es S (fuel + 1) listed a w := by
  refine ⟨fun h0 => absurd (hr ▸ h0) hne, fun j hj => ?_⟩
  rw [hr] at hj
  obtain ⟨o, ho, h2⟩ := h j hj
  exact wpOp_step ho (fun K' hK => h2 K' (fun a w hS hW => hK a w ⟨hS, hW hS⟩))
end

section
variable {P : Program} {ops : Array Oper} {Q : Exit → Act → World → Prop} {md : Region.Mode} {S : World → Prop} {Es : List Nat}
theorem g_of_any : ∀ (fuel : Nat) (listed : Array Bool) (a : Act) (w : World), (∀ i, listed.getD i true = false → i ∈ Es) → wpAny P md ops Q fuel listed a w → wpAnyG P md ops Q Es S fuel listed a w
  | 0, _, _, _, _, h => h
  | fuel + 1, listed, a, w, hE, h => ⟨h.1, fun i hi => by
    have hiE := hE i (mem_ready.1 hi).1
    refine wpOp_mono (fun a' w' h' => ⟨fun hn => absurd hiE hn, g_of_any fuel _ a' w' (fun k hk => hE k ?_) h'⟩) (h.2 i hi)
    by_cases e : i = k
    · subst e; exact (mem_ready.1 hi).1
    · rw [getD_set_ne true e] at hk; exact hk⟩
theorem g_free {fuel : Nat} {listed : Array Bool} {a : Act} {w : World} (hE : (List.range listed.size).all (fun i => listed.getD i true || Es.contains i) = true) (h : wpAny P md ops Q fuel listed a w) : wpAnyG P md ops Q Es S fuel listed a w := by
  refine g_of_any fuel listed a w (fun i hi => ?_) h
  have hl : i < listed.size := by
    rcases Nat.lt_or_ge i listed.size with h | h
    · exact h
    · simp [Array.getElem?_eq_none h] at hi
  have := List.all_eq_true.1 hE i (List.mem_range.2 hl)
  rw [hi] at this
  simpa using this
end
end Go.Proofs.YtjepnddndpmnnaaGreatDoor
