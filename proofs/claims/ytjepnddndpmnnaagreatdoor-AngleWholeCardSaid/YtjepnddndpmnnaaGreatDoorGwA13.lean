/-
  events: Done, close and add of a Check.
  events: add, where a key is kept.
  events: Step of a Check: refused, or closing.
  events: Step of a Check: an End, a thing too deep, a key, anything else.
-/
import Derived.Test.YtjepnddndpmnnaaGreatDoorGwA12
import Derived.Deep.QuietTactic
import Derived.BigQuiet
import Derived.IntWalk
import Derived.Deep.RegionHeld3
import Derived.WalkSpells
namespace Go.Proofs.YtjepnddndpmnnaaGreatDoor
open Go.RowKit Go.Maps
set_option maxRecDepth 100000
set_option linter.unusedSectionVars false
variable [Tab] [Fo]

theorem done_any (w : World) (base g : Nat) (st : List Pt) (h : CAt w base g st) (hl : st.length ≤ 7) (hp : st ≠ []) : Calls Tryz.prog 12 #[.pointer (some ⟨g, 0, none⟩)] w fun e w' => e = .returned (.bool (doneB st)) ∧ w' = w := by
  have hD := depth_any w base g st h hl
  obtain ⟨rb, cap, qs, rfl, h⟩ := h
  match qs, h with
  | [q], h =>
    have hR : doneB (ptsOf [q]) = decide (q.p.last ≠ 0) := rfl
    rw [hR]
    have hc : w.cell? ⟨g, 0, none⟩ = some (.slice (some ⟨rb, 0, none⟩) 1 cap) := h.c
    have h1 : w.cell? ⟨rb, 1, none⟩ = some (.int .i64 q.p.last) := h.c1
    have hlt := h.lt
    have hlr := h.rb_lt
    have hD' : Calls Tryz.prog 22 #[.pointer (some ⟨g, 0, none⟩)] w fun e w' => e = .returned (.int .i64 0) ∧ w' = w := hD
    clear h hD
    by_cases h0 : q.p.last = 0
    · rw [h0] at h1 ⊢
      go_enter Tryz.func12, Tryz.ntmps12
      go_wp2_with (first
        | (go_at_call 22; refine hD'.mono ?_; rintro e w' ⟨rfl, rfl⟩))
      go_ret
      exact ⟨rfl, rfl⟩
    · have d0 := ne_beq h0
      have b0 := ne_bne h0
      rw [decide_eq_true h0]
      go_enter Tryz.func12, Tryz.ntmps12
      go_wp2_with (first
        | (go_at_call 22; refine hD'.mono ?_; rintro e w' ⟨rfl, rfl⟩))
      go_ret
      exact ⟨rfl, rfl⟩
  | q :: q2 :: r, h =>
    have hR : doneB (ptsOf (q :: q2 :: r)) = false := rfl
    rw [hR]
    have e : (ptsOf (q :: q2 :: r)).length = r.length + 2 := by simp [ptsOf]
    rw [e] at hD
    have d0 : (((r.length + 2 : Nat) : Int) - 1 == 0) = false := ne_beq (by omega)
    generalize ((r.length + 2 : Nat) : Int) - 1 = dd at hD d0
    clear h e
    go_enter Tryz.func12, Tryz.ntmps12
    go_wp2_with (first
      | (go_at_call 22; refine hD.mono ?_; rintro e w' ⟨rfl, rfl⟩))
    go_ret
    exact ⟨rfl, rfl⟩

section
variable {w : World} {base g rb cap : Nat} {q : PQ} {r : List PQ}
theorem CRep.pop (h : CRep w base g rb cap (q :: r)) : CRep (w.setCell ⟨g, 0, none⟩ (.slice (some ⟨rb, 0, none⟩) r.length cap)) base g rb cap r := by
  refine ⟨h.hg, h.blk.set_ 0 _, ?_, ?_, h.nf.1, h.nf.2.1, by simpa [World.setCell] using h.nf.2.2⟩
  · have h1 := rowN_cut h.row (m := r.length) (by simp)
    rw [show (qcs (q :: r)).take (r.length * 3) = qcs r by simp only [qcs]; rw [List.take_append_of_le_length (by rw [qcs_len]; omega), List.take_of_length_le (by rw [qcs_len]; omega)]] at h1
    refine World.ownsRow.kept (row := some g) h1 (only_setCell (p := ⟨g, 0, none⟩) (World.grownBy.refl _ (some g)) (.inl rfl) _) (.inr ?_)
    intro e
    injection e with e
    exact h.rb_ne e.symm
  · exact h.maps.2.2.keep fun _ _ b _ hb => Below.heap_setCell w ⟨g, 0, none⟩ _ b (h.map_ne hb).1
theorem CRep.closed (h : CRep w base g rb cap (q :: r)) :
    CRep ((((w.setCell ⟨rb, r.length * 3, none⟩ (.int .i64 0)).setCell ⟨rb, r.length * 3 + 1, none⟩ (.int .i64 0)).setCell ⟨rb, r.length * 3 + 2, none⟩ (.map none)).setCell ⟨g, 0, none⟩ (.slice (some ⟨rb, 0, none⟩) r.length cap)) base g rb cap r ∧
    Tch base cObj w ((((w.setCell ⟨rb, r.length * 3, none⟩ (.int .i64 0)).setCell ⟨rb, r.length * 3 + 1, none⟩ (.int .i64 0)).setCell ⟨rb, r.length * 3 + 2, none⟩ (.map none)).setCell ⟨g, 0, none⟩ (.slice (some ⟨rb, 0, none⟩) r.length cap)) := by
  have h1 : CRep (w.setCell ⟨rb, r.length * 3, none⟩ (.int .i64 0)) base g rb cap (⟨{ q.p with kind := 0 }, q.m⟩ :: r) := h.set 0 (by omega) _ _ rfl (h.set_maps _ _ : MapsOk _ base (q :: r))
  have h2 := h1.set_last 0
  have h3 := h2.set 2 (by omega) (.map none) ⟨⟨0, 0, []⟩, none⟩ rfl ⟨fun b hb => (by cases hb), rfl, (h2.set_maps _ _ : MapsOk _ base (_ :: r)).2.2⟩
  exact ⟨h3.pop, (((h.touch _ _).trans (h1.touch _ _)).trans (h2.touch _ _)).trans (h3.touch_g _)⟩
end

theorem close_any (w : World) (base g rb cap : Nat) (q : PQ) (r : List PQ) (h : CRep w base g rb cap (q :: r)) (hl : r.length ≤ 6) : Calls Tryz.prog 21 #[.pointer (some ⟨g, 0, none⟩)] w fun e w' => e = .returned (.tuple #[]) ∧ CRep w' base g rb cap r ∧ Tch base cObj w w' := by
  have hc : w.cell? ⟨g, 0, none⟩ = some (.slice (some ⟨rb, 0, none⟩) (r.length + 1) cap) := h.c
  have c0 := h.c0
  have c1 := h.c1
  have c2 := h.c2
  have hlt := h.lt
  have hlr := h.rb_lt
  have hne := h.rb_ne
  have f0 := h.frz (r.length * 3)
  have f1 := h.frz (r.length * 3 + 1)
  have f2 := h.frz (r.length * 3 + 2)
  have fg := h.blk.frozen 0
  obtain ⟨_, _, hcap, hcm, _, _, _⟩ := rowN_block h.row
  have hcap2 : r.length + 1 ≤ cap := by simpa using hcap
  have hcm2 : cap ≤ 9223372036854775807 := by simpa [maxLen] using hcm
  go_enter Tryz.func21, Tryz.ntmps21
  go_wp2
  go_end0
  obtain ⟨r1, r2⟩ := h.closed
  exact ⟨rfl, r1, r2⟩

section
variable {w w' : World} {base g rb cap b : Nat} {q : PQ} {r : List PQ} {ks : List (List UInt8)}
/-- The innermost part's map has turned. -/
theorem CRep.keyed (h : CRep w base g rb cap (q :: r)) (hq : q.m = some b) (hg : w.grownBy w' (some b)) (hs : SetAt w' b ks) : CRep w' base g rb cap (⟨{ q.p with keys := ks }, some b⟩ :: r) ∧ Tch base cObj w w' := by
  have hm := h.maps
  have hb := hm.1 b hq
  have hk : SetAt w b q.p.keys := by have := hm.2.1; rw [hq] at this; exact this
  obtain ⟨es, c, ho⟩ := hk.obj
  have hne := h.map_ne ⟨es, c, ho⟩
  refine ⟨⟨h.hg, h.blk.grown hg (by intro e; injection e with e; exact hne.1 e.symm), ?_, ⟨?_, hs, ?_⟩, h.nf.1, h.nf.2.1, Nat.le_trans h.nf.2.2 hg.size⟩, Tch.of_grown hg hb.1.1 hb.1.2 ho trivial⟩
  · have h1 := World.ownsRow.kept h.row hg (.inr (by intro e; injection e with e; exact hne.2 e.symm))
    have e : qcs (⟨{ q.p with keys := ks }, some b⟩ :: r) = qcs (q :: r) := by simp only [qcs, qc, hq]
    rw [e]
    exact h1
  · intro b' hb'
    injection hb' with hb'
    subst hb'
    exact hb
  · refine hm.2.2.keep fun q' hq' b' hb' ho' => hg.block b' ?_ ?_
    · obtain ⟨es', c', ho'⟩ := ho'
      exact (Array.getElem?_eq_some_iff.1 ho').1
    · intro e
      injection e with e
      subst e
      exact hb.2 q' hq' hb'
/-- The innermost part gets a map. -/
theorem CRep.mapped (h : CRep w base g rb cap (q :: r)) (hk : q.p.keys = []) (hbase : base ≤ w.heap.size) : CRep ((w.alloc (.map #[] 0)).setCell ⟨rb, r.length * 3 + 2, none⟩ (.map (some w.heap.size))) base g rb cap (⟨q.p, some w.heap.size⟩ :: r) ∧
    Tch base cObj w ((w.alloc (.map #[] 0)).setCell ⟨rb, r.length * 3 + 2, none⟩ (.map (some w.heap.size))) := by
  have h1 := h.alloc (.map #[] 0)
  refine ⟨h1.set 2 (by omega) _ ⟨q.p, some w.heap.size⟩ rfl ⟨?_, ?_, (h1.set_maps _ _ : MapsOk _ base (_ :: r)).2.2⟩, ((Tch.refl base cObj w).alloc _).trans (h1.touch _ _)⟩
  · intro b hb
    injection hb with hb
    subst hb
    refine ⟨⟨hbase, nf_new h.nf.2.2⟩, fun q' hq' hc => ?_⟩
    have := h.maps.lt q' (List.mem_cons_of_mem _ hq') _ hc
    omega
  · show SetAt _ _ q.p.keys
    rw [hk]
    refine (SetAt.new w).keep (Below.heap_setCell _ ⟨rb, r.length * 3 + 2, none⟩ _ _ ?_)
    have := h.rb_lt
    show w.heap.size ≠ rb
    omega
end

def addE (ks : List (List UInt8)) (k : List UInt8) : Int := if k ∈ ks then 6 else if 10 ≤ ks.length then 7 else 0
def addK (ks : List (List UInt8)) (k : List UInt8) : List (List UInt8) := if addE ks k = 0 then k :: ks else ks
/-- What add leaves. -/
def APost (w : World) (base g rb cap : Nat) (q : PQ) (r : List PQ) (k : List UInt8) (e : Ending) (w' : World) : Prop :=
  e = .returned (.int .i64 (addE q.p.keys k)) ∧ (∃ m, CRep w' base g rb cap (⟨{ q.p with keys := addK q.p.keys k }, m⟩ :: r)) ∧ Tch base cObj w w'

set_option maxHeartbeats 4000000 in
theorem add_refused (w : World) (base g rb cap : Nat) (q : PQ) (r : List PQ) (k : ByteArray) (h : CRep w base g rb cap (q :: r)) (hs : k.size ≤ 140737488355328) (hE : addE q.p.keys k.data.toList ≠ 0) :
    Calls Tryz.prog 23 #[.pointer (some ⟨rb, r.length * 3, none⟩), .string k] w (APost w base g rb cap q r k.data.toList) := by
  have hK : addK q.p.keys k.data.toList = q.p.keys := by unfold addK; rw [if_neg hE]
  unfold APost
  rw [hK]
  have hF : CRep (w.alloc (.cells #[] 93)) base g rb cap (⟨{ q.p with keys := q.p.keys }, q.m⟩ :: r) := h.alloc _
  have T := (Tch.refl base cObj w).alloc (.cells #[] 93)
  have hkeys := h.maps.2.1
  have hkeys1 := hF.maps.2.1
  have c2 := h.c2
  have c2' := hF.c2
  have hlr := h.rb_lt
  clear h hK
  generalize q.m = m at *
  by_cases hm : k.data.toList ∈ q.p.keys
  · have hE2 : addE q.p.keys k.data.toList = 6 := by unfold addE; rw [if_pos hm]
    rw [hE2]
    have HD := Lib.hid (decide_eq_true hm)
    clear hE2 hE hm hkeys1
    go_enter Tryz.func23, Tryz.ntmps23
    go_wp2_with (first
      | (at_lookup; refine wp_lookK hkeys rfl _ _ rfl k hs rfl rfl ?_; rw [HD.out]))
    go_ret
    exact ⟨rfl, ⟨_, hF⟩, T⟩
  · have hE2 : addE q.p.keys k.data.toList = 7 := by
      unfold addE at hE ⊢; rw [if_neg hm] at hE ⊢
      split at hE
      · rename_i h10; rw [if_pos h10]
      · exact absurd rfl hE
    have h10 : 10 ≤ q.p.keys.length := by
      unfold addE at hE2; rw [if_neg hm] at hE2; split at hE2
      · assumption
      · exact absurd hE2 (by decide)
    rw [hE2]
    have HD := Lib.hid (decide_eq_false hm)
    clear hE2 hE hm
    go_enter Tryz.func23, Tryz.ntmps23
    go_wp2_with (first
      | (at_lookup; refine wp_lookK hkeys rfl _ _ rfl k hs rfl rfl ?_; rw [HD.out])
      | (at_len; refine wp_lenK hkeys1 rfl _ rfl rfl ?_))
    go_ret
    exact ⟨rfl, ⟨_, hF⟩, T⟩
end Go.Proofs.YtjepnddndpmnnaaGreatDoor
namespace Go.Proofs.YtjepnddndpmnnaaGreatDoor
open Go.RowKit Go.Maps
set_option maxRecDepth 100000
set_option linter.unusedSectionVars false
variable [Tab] [Fo]

set_option maxHeartbeats 4000000 in
theorem add_kept (w : World) (base g rb cap : Nat) (q : PQ) (r : List PQ) (k : ByteArray) (h : CRep w base g rb cap (q :: r)) (hs : k.size ≤ 140737488355328) (hE : addE q.p.keys k.data.toList = 0) :
    Calls Tryz.prog 23 #[.pointer (some ⟨rb, r.length * 3, none⟩), .string k] w (APost w base g rb cap q r k.data.toList) := by
  have hK : addK q.p.keys k.data.toList = k.data.toList :: q.p.keys := by unfold addK; rw [if_pos hE]
  unfold APost
  rw [hK, hE]
  have hm : k.data.toList ∉ q.p.keys := by
    intro hc; unfold addE at hE; rw [if_pos hc] at hE; exact absurd hE (by decide)
  have h10 : q.p.keys.length < 10 := by
    unfold addE at hE; rw [if_neg hm] at hE; split at hE
    · exact absurd hE (by decide)
    · omega
  have hF : CRep (w.alloc (.cells #[] 93)) base g rb cap (⟨q.p, q.m⟩ :: r) := h.alloc _
  have T := (Tch.refl base cObj w).alloc (.cells #[] 93)
  have hkeys := h.maps.2.1
  have hkeys1 := hF.maps.2.1
  have c2 := h.c2
  have c2' := hF.c2
  have hlr := h.rb_lt
  have HD := Lib.hid (decide_eq_false hm)
  have HM := Lib.hid hm
  have hbase : base ≤ (w.alloc (.cells #[] 93)).heap.size := by have := h.hg; have := h.lt; simp; omega
  clear h hK hE hm
  obtain ⟨p, m⟩ := q
  simp only at hkeys hkeys1 c2 c2' hF h10 HD HM ⊢
  have hmm := @run_makeMap Tryz.prog
  have hq : ∀ (w : World) (r : Option Nat), (binOp .eql 70 (.map r) (.map none)).run Tryz.prog w = .ok (.bool r.isNone) w := fun w r => run_eql_map_nil w _ _ _ r Tryz.underlying70
  cases m with
  | none =>
    have hA := hF.alloc (.map #[] 0)
    obtain ⟨hM, TM⟩ := hF.mapped (show p.keys = [] from hkeys) hbase
    have TM2 := T.trans TM
    rw [World.setCell_alloc_past _ _ _ _ (by simp; omega), World.setCell_alloc_past _ _ _ _ hlr, World.size_alloc] at hM TM2
    have ca := hA.c2
    have hfz := hA.frz (r.length * 3 + 2)
    have hmc := hM.drew.c2
    have hsk : k.size ≤ maxLen := by simp only [maxLen]; omega
    have hlk : p.keys.length < maxLen := by simp only [maxLen]; omega
    clear T TM hbase hA hF
    go_enter Tryz.func23, Tryz.ntmps23
    go_wp2_with (first
      | (at_lookup; refine wp_lookK hkeys rfl _ _ rfl k hs rfl rfl ?_; rw [HD.out])
      | (at_len; refine wp_lenK hkeys1 rfl _ rfl rfl ?_))
    go_region_with (first
      | (go_at_call 34; refine (clone_any k _ (by exact hs)).mono ?_; rintro e w5 ⟨rfl, hb5⟩; have hM5 := hM.drew.below hb5; have c5 := hM5.c2; obtain ⟨w6, hr6, hs6, hg6⟩ := SetAt.put (b := w.heap.size + 1) (show SetAt w5 (w.heap.size + 1) p.keys from hM5.maps.2.1) hsk hlk HM.out))
    all_goals
      go_wp2
      go_ret
      obtain ⟨r1, r2⟩ := hM5.keyed rfl hg6 hs6
      exact ⟨rfl, ⟨_, r1⟩, (TM2.trans (Tch.of_below (below_drew (Below.refl _ _)))).trans ((Tch.of_below hb5).trans r2)⟩
  | some b =>
    have hmc := hF.drew.c2
    have hsk : k.size ≤ maxLen := by simp only [maxLen]; omega
    have hlk : p.keys.length < maxLen := by simp only [maxLen]; omega
    go_enter Tryz.func23, Tryz.ntmps23
    go_wp2_with (first
      | (at_lookup; refine wp_lookK hkeys rfl _ _ rfl k hs rfl rfl ?_; rw [HD.out])
      | (at_len; refine wp_lenK hkeys1 rfl _ rfl rfl ?_))
    go_region_with (first
      | (go_at_call 34; refine (clone_any k _ (by exact hs)).mono ?_; rintro e w5 ⟨rfl, hb5⟩; have hM5 := hF.drew.below hb5; have c5 := hM5.c2; obtain ⟨w6, hr6, hs6, hg6⟩ := SetAt.put (show SetAt w5 _ p.keys from hM5.maps.2.1) hsk hlk HM.out))
    all_goals
      go_wp2
      go_ret
      obtain ⟨r1, r2⟩ := hM5.keyed rfl hg6 hs6
      exact ⟨rfl, ⟨_, r1⟩, (T.trans (Tch.of_below (below_drew (Below.refl _ _)))).trans ((Tch.of_below hb5).trans r2)⟩

theorem add_any (w : World) (base g rb cap : Nat) (q : PQ) (r : List PQ) (k : ByteArray) (h : CRep w base g rb cap (q :: r)) (hs : k.size ≤ 140737488355328) :
    Calls Tryz.prog 23 #[.pointer (some ⟨rb, r.length * 3, none⟩), .string k] w (APost w base g rb cap q r k.data.toList) := by
  by_cases hE : addE q.p.keys k.data.toList = 0
  · exact add_kept w base g rb cap q r k h hs hE
  · exact add_refused w base g rb cap q r k h hs hE
end Go.Proofs.YtjepnddndpmnnaaGreatDoor
namespace Go.Proofs.YtjepnddndpmnnaaGreatDoor
open Go.RowKit Go.Maps
set_option maxRecDepth 100000
set_option linter.unusedSectionVars false
variable [Tab] [Fo]

/-- What Step leaves. -/
def SPost (w : World) (base g : Nat) (st : List Pt) (x : Ev) (e : Ending) (w' : World) : Prop :=
  e = .returned (.int .i64 (stepE st x)) ∧ CAt w' base g (stepS st x) ∧ Tch base cObj w w'

section
variable (w : World) (base g rb cap : Nat) (q : PQ) (r : List PQ) (x : Ev)
theorem EvAt.set {w : World} {b : Nat} {x : Ev} (h : EvAt w b x) {p : Addr} (hp : b ≠ p.block) (u : Value) : EvAt (w.setCell p u) b x := Blk.far h hp u
theorem EvAt.of_c {w w' : World} {base b : Nat} {x : Ev} (h : EvAt w b x) (ht : Tch base cObj w w') : EvAt w' b x := Blk.tch h ht (.inr (by simp only [cObj]; decide))
theorem opens_not_ends' {k : Int} (h : opensK k = true) : endsK k = false := by
  unfold opensK at h; unfold endsK; rw [decide_eq_true_iff] at h; rw [decide_eq_false_iff_not]; omega
theorem ptsOf_cons (q : PQ) (r : List PQ) : ptsOf (q :: r) = q.p :: ptsOf r := rfl
theorem ptsOf_len (r : List PQ) : (ptsOf r).length = r.length := by simp [ptsOf]

theorem formedV {w' : World} (hw : NumW x.k w') (hs : x.t.size ≤ 140737488355328) : Calls Tryz.prog 19 #[.agg #[.int .i64 x.k, .string x.t, .string x.v]] w' (FPost x w') := formed_any x w' hw hs
theorem continuesV {w' : World} (h : CRep w' base g rb cap (q :: r)) : Calls Tryz.prog 20 #[.pointer (some ⟨rb, r.length * 3, none⟩), .agg #[.int .i64 x.k, .string x.t, .string x.v]] w' fun e w'' => e = .returned (.bool (contB q.p.kind q.p.last x.k (emptyT x.t))) ∧ Below w'.heap.size w' w'' :=
  continues_any rb (r.length * 3) q.p.last x w' q.p.kind h.c0 h.c1

set_option maxHeartbeats 4000000 in
theorem step_bad (h : CRep w base g rb cap (q :: r)) (hl : r.length ≤ 6) (hw : NumW x.k w) (hs : x.t.size ≤ 140737488355328) (hb : formedB x = false ∨ contB q.p.kind q.p.last x.k (emptyT x.t) = false) :
    Calls Tryz.prog 11 #[.pointer (some ⟨g, 0, none⟩), evV x] w (SPost w base g (ptsOf (q :: r)) x) := by
  have hE : stepE (ptsOf (q :: r)) x = 19 := by rw [ptsOf_cons]; simp only [stepE]; rw [if_pos hb]
  have hS : stepS (ptsOf (q :: r)) x = ptsOf (q :: r) := by unfold stepS; rw [hE, if_neg (by decide)]
  unfold SPost
  rw [hE, hS]
  clear hE hS
  have hA := h.alloc (.cells #[.int .i64 x.k, .string x.t, .string x.v] 38)
  have hX := EvAt.new w x
  have hbel := (Below.refl w.heap.size w).alloc (Nat.le_refl _) (.cells #[.int .i64 x.k, .string x.t, .string x.v] 38)
  have hc := hA.c
  have hltA := hA.lt
  have hlrA := hA.rb_lt
  have hF := fun w' h => formedV (x := x) (w' := w') h hs
  have hN := fun w' h => continuesV (base := base) (g := g) (rb := rb) (cap := cap) (q := q) (r := r) (x := x) (w' := w') h
  unfold evV
  rcases hb with hf | hf
  · have HF := Lib.hid hf
    clear hf
    go_enter Tryz.func11, Tryz.ntmps11
    go_wp2_with fail
    go_quiet (fail)
    rename_i nq
    replace hA := hA.drewN nq
    replace hX := hX.drewN nq
    replace hbel := below_drewN hbel nq
    generalize (w.alloc (.cells #[.int .i64 x.k, .string x.t, .string x.v] 38)).drewN nq = w1 at *
    have hw1 := hw.below hbel
    have x0 := hX.c0
    have x1 := hX.c1
    have x2 := hX.c2
    go_wp2_with (first
      | (go_at_call 19; refine (hF _ hw1).mono ?_; rintro e w2 ⟨rfl, hb2⟩; rw [HF.out]))
    go_ret
    exact ⟨rfl, ⟨rb, cap, q :: r, rfl, hA.below hb2⟩, (Tch.of_below hbel).trans (Tch.of_below hb2)⟩
  · cases hf2 : formedB x with
    | false =>
      have HF := Lib.hid hf2
      clear hf2 hf
      go_enter Tryz.func11, Tryz.ntmps11
      go_wp2_with fail
      go_quiet (fail)
      rename_i nq
      replace hA := hA.drewN nq
      replace hX := hX.drewN nq
      replace hbel := below_drewN hbel nq
      generalize (w.alloc (.cells #[.int .i64 x.k, .string x.t, .string x.v] 38)).drewN nq = w1 at *
      have hw1 := hw.below hbel
      have x0 := hX.c0
      have x1 := hX.c1
      have x2 := hX.c2
      go_wp2_with (first
        | (go_at_call 19; refine (hF _ hw1).mono ?_; rintro e w2 ⟨rfl, hb2⟩; rw [HF.out]))
      go_ret
      exact ⟨rfl, ⟨rb, cap, q :: r, rfl, hA.below hb2⟩, (Tch.of_below hbel).trans (Tch.of_below hb2)⟩
    | true =>
      have HF := Lib.hid hf2
      have HC := Lib.hid hf
      clear hf2 hf
      go_enter Tryz.func11, Tryz.ntmps11
      go_wp2_with fail
      go_quiet (fail)
      rename_i nq
      replace hA := hA.drewN nq
      replace hX := hX.drewN nq
      replace hbel := below_drewN hbel nq
      generalize (w.alloc (.cells #[.int .i64 x.k, .string x.t, .string x.v] 38)).drewN nq = w1 at *
      have hw1 := hw.below hbel
      have x0 := hX.c0
      have x1 := hX.c1
      have x2 := hX.c2
      go_wp2_with (first
        | (go_at_call 19; refine (hF _ hw1).mono ?_; rintro e w2 ⟨rfl, hb2⟩; rw [HF.out]; have hA2 := hA.below hb2; have hX2 := hX.below hb2; have y0 := hX2.c0; have y1 := hX2.c1; have y2 := hX2.c2)
        | (go_at_call 20; refine (hN _ hA2).mono ?_; rintro e w3 ⟨rfl, hb3⟩; rw [HC.out]))
      go_ret
      exact ⟨rfl, ⟨rb, cap, q :: r, rfl, hA2.below hb3⟩, ((Tch.of_below hbel).trans (Tch.of_below hb2)).trans (Tch.of_below hb3)⟩
end
end Go.Proofs.YtjepnddndpmnnaaGreatDoor
namespace Go.Proofs.YtjepnddndpmnnaaGreatDoor
open Go.RowKit Go.Maps
set_option maxRecDepth 100000
set_option linter.unusedSectionVars false
variable [Tab] [Fo]

section
variable (w : World) (base g rb cap : Nat) (q : PQ) (r : List PQ) (x : Ev)

set_option maxHeartbeats 4000000 in
theorem step_close (h : CRep w base g rb cap (q :: r)) (hl : r.length ≤ 6) (hw : NumW x.k w) (hs : x.t.size ≤ 140737488355328) (hf : formedB x = true) (hn : contB q.p.kind q.p.last x.k (emptyT x.t) = true) (hk : endsK x.k = true) :
    Calls Tryz.prog 11 #[.pointer (some ⟨g, 0, none⟩), evV x] w (SPost w base g (ptsOf (q :: r)) x) := by
  have hE : stepE (ptsOf (q :: r)) x = 0 := by rw [ptsOf_cons]; simp only [stepE]; rw [if_neg (by rw [hf, hn]; decide), if_pos hk]
  have hS : stepS (ptsOf (q :: r)) x = ptsOf r := by unfold stepS; rw [hE, if_pos rfl, ptsOf_cons]; simp only [goS]; rw [if_pos hk]
  unfold SPost
  rw [hE, hS]
  clear hE hS
  have hF := fun w' h => formedV (x := x) (w' := w') h hs
  have hN := fun w' h => continuesV (base := base) (g := g) (rb := rb) (cap := cap) (q := q) (r := r) (x := x) (w' := w') h
  unfold evV
  have HF := Lib.hid hf
  have HC := Lib.hid hn
  clear hf hn
  unfold endsK at hk
  rw [decide_eq_true_iff] at hk
  have hA := h.alloc (.cells #[.int .i64 x.k, .string x.t, .string x.v] 38)
  have hX := EvAt.new w x
  have hbel := (Below.refl w.heap.size w).alloc (Nat.le_refl _) (.cells #[.int .i64 x.k, .string x.t, .string x.v] 38)
  obtain ⟨k, t, v⟩ := x
  simp only at *
  rcases hk with rfl | rfl | rfl
  all_goals
    have hc := hA.c
    have hltA := hA.lt
    have hlrA := hA.rb_lt
    go_enter Tryz.func11, Tryz.ntmps11
    go_wp2_with fail
    go_quiet (fail)
    rename_i nq
    replace hA := hA.drewN nq
    replace hX := hX.drewN nq
    replace hbel := below_drewN hbel nq
    generalize World.drewN _ nq = w1 at *
    have hw1 := hw.below hbel
    have x0 := hX.c0
    have x1 := hX.c1
    have x2 := hX.c2
    go_wp2_with (first
      | (go_at_call 19; refine (hF _ hw1).mono ?_; rintro e w2 ⟨rfl, hb2⟩; rw [HF.out]; have hA2 := hA.below hb2; have hX2 := hX.below hb2; have y0 := hX2.c0; have y1 := hX2.c1; have y2 := hX2.c2)
      | (go_at_call 20; refine (hN _ hA2).mono ?_; rintro e w3 ⟨rfl, hb3⟩; rw [HC.out]; have hA3 := hA2.below hb3; have z0 := (hX2.below hb3).c0)
      | (go_at_call 21; refine (close_any _ base g rb cap q r hA3 hl).mono ?_; rintro e w4 ⟨rfl, hA4, hT4⟩))
    go_ret
    exact ⟨rfl, ⟨rb, cap, r, rfl, hA4⟩, (((Tch.of_below hbel).trans (Tch.of_below hb2)).trans (Tch.of_below hb3)).trans hT4⟩

set_option maxHeartbeats 4000000 in
theorem step_deep (h : CRep w base g rb cap (q :: r)) (hl : r.length ≤ 6) (hw : NumW x.k w) (hs : x.t.size ≤ 140737488355328) (hf : formedB x = true) (hn : contB q.p.kind q.p.last x.k (emptyT x.t) = true) (hk : opensK x.k = true) (h6 : 6 ≤ r.length) :
    Calls Tryz.prog 11 #[.pointer (some ⟨g, 0, none⟩), evV x] w (SPost w base g (ptsOf (q :: r)) x) := by
  have hne : endsK x.k = false := opens_not_ends' hk
  have hE : stepE (ptsOf (q :: r)) x = 5 := by rw [ptsOf_cons]; simp only [stepE]; rw [if_neg (by rw [hf, hn]; decide), if_neg (by rw [hne]; decide), if_pos hk, if_pos (by rw [ptsOf_len]; exact h6)]
  have hS : stepS (ptsOf (q :: r)) x = ptsOf (q :: r) := by unfold stepS; rw [hE, if_neg (by decide)]
  have hr6 : r.length = 6 := by omega
  unfold SPost
  rw [hE, hS]
  clear hE hS hne
  have hF := fun w' h => formedV (x := x) (w' := w') h hs
  have hN := fun w' h => continuesV (base := base) (g := g) (rb := rb) (cap := cap) (q := q) (r := r) (x := x) (w' := w') h
  have hD : ∀ w', CRep w' base g rb cap (q :: r) → Calls Tryz.prog 22 #[.pointer (some ⟨g, 0, none⟩)] w' fun e w'' => e = .returned (.int .i64 6) ∧ w'' = w' := by
    intro w' hw'
    refine (depth_any w' base g _ ⟨rb, cap, q :: r, rfl, hw'⟩ (by rw [ptsOf_len]; simp; omega)).mono ?_
    rintro e w'' ⟨rfl, rfl⟩
    rw [ptsOf_len, List.length_cons, hr6]
    exact ⟨rfl, rfl⟩
  clear hr6 h6
  unfold evV
  have HF := Lib.hid hf
  have HC := Lib.hid hn
  clear hf hn
  unfold opensK at hk
  rw [decide_eq_true_iff] at hk
  have hA := h.alloc (.cells #[.int .i64 x.k, .string x.t, .string x.v] 38)
  have hX := EvAt.new w x
  have hbel := (Below.refl w.heap.size w).alloc (Nat.le_refl _) (.cells #[.int .i64 x.k, .string x.t, .string x.v] 38)
  obtain ⟨k, t, v⟩ := x
  simp only at *
  rcases hk with rfl | rfl | rfl
  all_goals
    have hc := hA.c
    have hltA := hA.lt
    have hlrA := hA.rb_lt
    go_enter Tryz.func11, Tryz.ntmps11
    go_wp2_with fail
    go_quiet (fail)
    rename_i nq
    replace hA := hA.drewN nq
    replace hX := hX.drewN nq
    replace hbel := below_drewN hbel nq
    generalize World.drewN _ nq = w1 at *
    have hw1 := hw.below hbel
    have x0 := hX.c0
    have x1 := hX.c1
    have x2 := hX.c2
    go_wp2_with (first
      | (go_at_call 19; refine (hF _ hw1).mono ?_; rintro e w2 ⟨rfl, hb2⟩; rw [HF.out]; have hA2 := hA.below hb2; have hX2 := hX.below hb2; have y0 := hX2.c0; have y1 := hX2.c1; have y2 := hX2.c2)
      | (go_at_call 20; refine (hN _ hA2).mono ?_; rintro e w3 ⟨rfl, hb3⟩; rw [HC.out]; have hA3 := hA2.below hb3; have z0 := (hX2.below hb3).c0)
      | (go_at_call 22; refine (hD _ hA3).mono ?_; rintro e w4 ⟨rfl, rfl⟩))
    go_ret
    exact ⟨rfl, ⟨rb, cap, q :: r, rfl, hA3⟩, ((Tch.of_below hbel).trans (Tch.of_below hb2)).trans (Tch.of_below hb3)⟩
end
end Go.Proofs.YtjepnddndpmnnaaGreatDoor
