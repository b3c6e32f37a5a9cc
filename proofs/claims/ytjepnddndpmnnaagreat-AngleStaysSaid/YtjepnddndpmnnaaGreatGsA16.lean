/-
  events: add, where a key is kept.
  events: Step of a Check: refused, or closing.
  events: Step of a Check: an End, a thing too deep, a key, anything else.
  events: Step of a Check: a value that opens nothing, a key.
-/
import Derived.Test.YtjepnddndpmnnaaGreatGsA15
import Derived.Deep.RegionHeld3
import Derived.WalkSpells
namespace Go.Proofs.YtjepnddndpmnnaaGreat
open Go.RowKit Go.Maps
set_option maxRecDepth 100000
set_option linter.unusedSectionVars false
variable [Tab] [Fo]

set_option maxHeartbeats 4000000 in
theorem add_kept (w : World) (base g rb cap : Nat) (q : PQ) (r : List PQ) (k : ByteArray) (h : CRep w base g rb cap (q :: r)) (hs : k.size ≤ 140737488355328) (hE : addE q.p.keys k.data.toList = 0) :
    Calls Tryz.prog 157 #[.pointer (some ⟨rb, r.length * 3, none⟩), .string k] w (APost w base g rb cap q r k.data.toList) := by
  have hK : addK q.p.keys k.data.toList = k.data.toList :: q.p.keys := by unfold addK; rw [if_pos hE]
  unfold APost
  rw [hK, hE]
  have hm : k.data.toList ∉ q.p.keys := by
    intro hc; unfold addE at hE; rw [if_pos hc] at hE; exact absurd hE (by decide)
  have h10 : q.p.keys.length < 10 := by
    unfold addE at hE; rw [if_neg hm] at hE; split at hE
    · exact absurd hE (by decide)
    · omega
  have hF : CRep (w.alloc (.cells #[] 217)) base g rb cap (⟨q.p, q.m⟩ :: r) := h.alloc _
  have T := (Tch.refl base cObj w).alloc (.cells #[] 217)
  have hkeys := h.maps.2.1
  have hkeys1 := hF.maps.2.1
  have c2 := h.c2
  have c2' := hF.c2
  have hlr := h.rb_lt
  have HD := Lib.hid (decide_eq_false hm)
  have HM := Lib.hid hm
  have hbase : base ≤ (w.alloc (.cells #[] 217)).heap.size := by have := h.hg; have := h.lt; simp; omega
  clear h hK hE hm
  obtain ⟨p, m⟩ := q
  simp only at hkeys hkeys1 c2 c2' hF h10 HD HM ⊢
  have hmm := @run_makeMap Tryz.prog
  have hq : ∀ (w : World) (r : Option Nat), (binOp .eql 143 (.map r) (.map none)).run Tryz.prog w = .ok (.bool r.isNone) w := fun w r => run_eql_map_nil w _ _ _ r Tryz.underlying143
  cases m with
  | none =>
    have hA := hF.alloc (.map #[] 0)
    obtain ⟨hM, TM⟩ := hF.mapped (show p.keys = [] from hkeys) hbase
    have TM2 := T.trans TM
    rw [World.setCell_alloc_past _ _ _ _ (by simp; omega), World.setCell_alloc_past _ _ _ _ hlr, World.size_alloc] at hM TM2
    have ca := hA.c2
    have hfz := hA.frz (r.length * 3 + 2)
    have hmc := hM.drew.c2
    have hsk : k.size ≤ maxLen := by simp only [maxLen]; omega
    have hlk : p.keys.length < maxLen := by simp only [maxLen]; omega
    clear T TM hbase hA hF
    go_enter Tryz.func157, Tryz.ntmps157
    go_wp2_with (first
      | (at_lookup; refine wp_lookK hkeys rfl _ _ rfl k hs rfl rfl ?_; rw [HD.out])
      | (at_len; refine wp_lenK hkeys1 rfl _ rfl rfl ?_))
    go_region_with (first
      | (go_at_call 140; refine (clone_any k _ (by exact hs)).mono ?_; rintro e w5 ⟨rfl, hb5⟩; have hM5 := hM.drew.below hb5; have c5 := hM5.c2; obtain ⟨w6, hr6, hs6, hg6⟩ := SetAt.put (b := w.heap.size + 1) (show SetAt w5 (w.heap.size + 1) p.keys from hM5.maps.2.1) hsk hlk HM.out))
    all_goals
      go_wp2
      go_ret
      obtain ⟨r1, r2⟩ := hM5.keyed rfl hg6 hs6
      exact ⟨rfl, ⟨_, r1⟩, (TM2.trans (Tch.of_below (below_drew (Below.refl _ _)))).trans ((Tch.of_below hb5).trans r2)⟩
  | some b =>
    have hmc := hF.drew.c2
    have hsk : k.size ≤ maxLen := by simp only [maxLen]; omega
    have hlk : p.keys.length < maxLen := by simp only [maxLen]; omega
    go_enter Tryz.func157, Tryz.ntmps157
    go_wp2_with (first
      | (at_lookup; refine wp_lookK hkeys rfl _ _ rfl k hs rfl rfl ?_; rw [HD.out])
      | (at_len; refine wp_lenK hkeys1 rfl _ rfl rfl ?_))
    go_region_with (first
      | (go_at_call 140; refine (clone_any k _ (by exact hs)).mono ?_; rintro e w5 ⟨rfl, hb5⟩; have hM5 := hF.drew.below hb5; have c5 := hM5.c2; obtain ⟨w6, hr6, hs6, hg6⟩ := SetAt.put (show SetAt w5 _ p.keys from hM5.maps.2.1) hsk hlk HM.out))
    all_goals
      go_wp2
      go_ret
      obtain ⟨r1, r2⟩ := hM5.keyed rfl hg6 hs6
      exact ⟨rfl, ⟨_, r1⟩, (T.trans (Tch.of_below (below_drew (Below.refl _ _)))).trans ((Tch.of_below hb5).trans r2)⟩

theorem add_any (w : World) (base g rb cap : Nat) (q : PQ) (r : List PQ) (k : ByteArray) (h : CRep w base g rb cap (q :: r)) (hs : k.size ≤ 140737488355328) :
    Calls Tryz.prog 157 #[.pointer (some ⟨rb, r.length * 3, none⟩), .string k] w (APost w base g rb cap q r k.data.toList) := by
  by_cases hE : addE q.p.keys k.data.toList = 0
  · exact add_kept w base g rb cap q r k h hs hE
  · exact add_refused w base g rb cap q r k h hs hE
end Go.Proofs.YtjepnddndpmnnaaGreat
namespace Go.Proofs.YtjepnddndpmnnaaGreat
open Go.RowKit Go.Maps
set_option maxRecDepth 100000
set_option linter.unusedSectionVars false
variable [Tab] [Fo]

/-- What Step leaves. -/
def SPost (w : World) (base g : Nat) (st : List Pt) (x : Ev) (e : Ending) (w' : World) : Prop :=
  e = .returned (.int .i64 (stepE st x)) ∧ CAt w' base g (stepS st x) ∧ Tch base cObj w w'

section
variable (w : World) (base g rb cap : Nat) (q : PQ) (r : List PQ) (x : Ev)
theorem EvAt.set {w : World} {b : Nat} {x : Ev} (h : EvAt w b x) {p : Addr} (hp : b ≠ p.block) (u : Value) : EvAt (w.setCell p u) b x := Blk.far h hp u
theorem EvAt.of_c {w w' : World} {base b : Nat} {x : Ev} (h : EvAt w b x) (ht : Tch base cObj w w') : EvAt w' b x := Blk.tch h ht (.inr (by simp only [cObj]; decide))
theorem opens_not_ends' {k : Int} (h : opensK k = true) : endsK k = false := by
  unfold opensK at h; unfold endsK; rw [decide_eq_true_iff] at h; rw [decide_eq_false_iff_not]; omega
theorem ptsOf_cons (q : PQ) (r : List PQ) : ptsOf (q :: r) = q.p :: ptsOf r := rfl
theorem ptsOf_len (r : List PQ) : (ptsOf r).length = r.length := by simp [ptsOf]

theorem formedV {w' : World} (hw : NumW x.k w') (hs : x.t.size ≤ 140737488355328) : Calls Tryz.prog 153 #[.agg #[.int .i64 x.k, .string x.t, .string x.v]] w' (FPost x w') := formed_any x w' hw hs
theorem continuesV {w' : World} (h : CRep w' base g rb cap (q :: r)) : Calls Tryz.prog 154 #[.pointer (some ⟨rb, r.length * 3, none⟩), .agg #[.int .i64 x.k, .string x.t, .string x.v]] w' fun e w'' => e = .returned (.bool (contB q.p.kind q.p.last x.k (emptyT x.t))) ∧ Below w'.heap.size w' w'' :=
  continues_any rb (r.length * 3) q.p.last x w' q.p.kind h.c0 h.c1

set_option maxHeartbeats 4000000 in
theorem step_bad (h : CRep w base g rb cap (q :: r)) (hl : r.length ≤ 6) (hw : NumW x.k w) (hs : x.t.size ≤ 140737488355328) (hb : formedB x = false ∨ contB q.p.kind q.p.last x.k (emptyT x.t) = false) :
    Calls Tryz.prog 146 #[.pointer (some ⟨g, 0, none⟩), evV x] w (SPost w base g (ptsOf (q :: r)) x) := by
  have hE : stepE (ptsOf (q :: r)) x = 19 := by rw [ptsOf_cons]; simp only [stepE]; rw [if_pos hb]
  have hS : stepS (ptsOf (q :: r)) x = ptsOf (q :: r) := by unfold stepS; rw [hE, if_neg (by decide)]
  unfold SPost
  rw [hE, hS]
  clear hE hS
  have hA := h.alloc (.cells #[.int .i64 x.k, .string x.t, .string x.v] 46)
  have hX := EvAt.new w x
  have hbel := (Below.refl w.heap.size w).alloc (Nat.le_refl _) (.cells #[.int .i64 x.k, .string x.t, .string x.v] 46)
  have hc := hA.c
  have hltA := hA.lt
  have hlrA := hA.rb_lt
  have hF := fun w' h => formedV (x := x) (w' := w') h hs
  have hN := fun w' h => continuesV (base := base) (g := g) (rb := rb) (cap := cap) (q := q) (r := r) (x := x) (w' := w') h
  unfold evV
  rcases hb with hf | hf
  · have HF := Lib.hid hf
    clear hf
    go_enter Tryz.func146, Tryz.ntmps146
    go_wp2_with fail
    go_quiet (fail)
    rename_i nq
    replace hA := hA.drewN nq
    replace hX := hX.drewN nq
    replace hbel := below_drewN hbel nq
    generalize (w.alloc (.cells #[.int .i64 x.k, .string x.t, .string x.v] 46)).drewN nq = w1 at *
    have hw1 := hw.below hbel
    have x0 := hX.c0
    have x1 := hX.c1
    have x2 := hX.c2
    go_wp2_with (first
      | (go_at_call 153; refine (hF _ hw1).mono ?_; rintro e w2 ⟨rfl, hb2⟩; rw [HF.out]))
    go_ret
    exact ⟨rfl, ⟨rb, cap, q :: r, rfl, hA.below hb2⟩, (Tch.of_below hbel).trans (Tch.of_below hb2)⟩
  · cases hf2 : formedB x with
    | false =>
      have HF := Lib.hid hf2
      clear hf2 hf
      go_enter Tryz.func146, Tryz.ntmps146
      go_wp2_with fail
      go_quiet (fail)
      rename_i nq
      replace hA := hA.drewN nq
      replace hX := hX.drewN nq
      replace hbel := below_drewN hbel nq
      generalize (w.alloc (.cells #[.int .i64 x.k, .string x.t, .string x.v] 46)).drewN nq = w1 at *
      have hw1 := hw.below hbel
      have x0 := hX.c0
      have x1 := hX.c1
      have x2 := hX.c2
      go_wp2_with (first
        | (go_at_call 153; refine (hF _ hw1).mono ?_; rintro e w2 ⟨rfl, hb2⟩; rw [HF.out]))
      go_ret
      exact ⟨rfl, ⟨rb, cap, q :: r, rfl, hA.below hb2⟩, (Tch.of_below hbel).trans (Tch.of_below hb2)⟩
    | true =>
      have HF := Lib.hid hf2
      have HC := Lib.hid hf
      clear hf2 hf
      go_enter Tryz.func146, Tryz.ntmps146
      go_wp2_with fail
      go_quiet (fail)
      rename_i nq
      replace hA := hA.drewN nq
      replace hX := hX.drewN nq
      replace hbel := below_drewN hbel nq
      generalize (w.alloc (.cells #[.int .i64 x.k, .string x.t, .string x.v] 46)).drewN nq = w1 at *
      have hw1 := hw.below hbel
      have x0 := hX.c0
      have x1 := hX.c1
      have x2 := hX.c2
      go_wp2_with (first
        | (go_at_call 153; refine (hF _ hw1).mono ?_; rintro e w2 ⟨rfl, hb2⟩; rw [HF.out]; have hA2 := hA.below hb2; have hX2 := hX.below hb2; have y0 := hX2.c0; have y1 := hX2.c1; have y2 := hX2.c2)
        | (go_at_call 154; refine (hN _ hA2).mono ?_; rintro e w3 ⟨rfl, hb3⟩; rw [HC.out]))
      go_ret
      exact ⟨rfl, ⟨rb, cap, q :: r, rfl, hA2.below hb3⟩, ((Tch.of_below hbel).trans (Tch.of_below hb2)).trans (Tch.of_below hb3)⟩
end
end Go.Proofs.YtjepnddndpmnnaaGreat
namespace Go.Proofs.YtjepnddndpmnnaaGreat
open Go.RowKit Go.Maps
set_option maxRecDepth 100000
set_option linter.unusedSectionVars false
variable [Tab] [Fo]

section
variable (w : World) (base g rb cap : Nat) (q : PQ) (r : List PQ) (x : Ev)

set_option maxHeartbeats 4000000 in
theorem step_close (h : CRep w base g rb cap (q :: r)) (hl : r.length ≤ 6) (hw : NumW x.k w) (hs : x.t.size ≤ 140737488355328) (hf : formedB x = true) (hn : contB q.p.kind q.p.last x.k (emptyT x.t) = true) (hk : endsK x.k = true) :
    Calls Tryz.prog 146 #[.pointer (some ⟨g, 0, none⟩), evV x] w (SPost w base g (ptsOf (q :: r)) x) := by
  have hE : stepE (ptsOf (q :: r)) x = 0 := by rw [ptsOf_cons]; simp only [stepE]; rw [if_neg (by rw [hf, hn]; decide), if_pos hk]
  have hS : stepS (ptsOf (q :: r)) x = ptsOf r := by unfold stepS; rw [hE, if_pos rfl, ptsOf_cons]; simp only [goS]; rw [if_pos hk]
  unfold SPost
  rw [hE, hS]
  clear hE hS
  have hF := fun w' h => formedV (x := x) (w' := w') h hs
  have hN := fun w' h => continuesV (base := base) (g := g) (rb := rb) (cap := cap) (q := q) (r := r) (x := x) (w' := w') h
  unfold evV
  have HF := Lib.hid hf
  have HC := Lib.hid hn
  clear hf hn
  unfold endsK at hk
  rw [decide_eq_true_iff] at hk
  have hA := h.alloc (.cells #[.int .i64 x.k, .string x.t, .string x.v] 46)
  have hX := EvAt.new w x
  have hbel := (Below.refl w.heap.size w).alloc (Nat.le_refl _) (.cells #[.int .i64 x.k, .string x.t, .string x.v] 46)
  obtain ⟨k, t, v⟩ := x
  simp only at *
  rcases hk with rfl | rfl | rfl
  all_goals
    have hc := hA.c
    have hltA := hA.lt
    have hlrA := hA.rb_lt
    go_enter Tryz.func146, Tryz.ntmps146
    go_wp2_with fail
    go_quiet (fail)
    rename_i nq
    replace hA := hA.drewN nq
    replace hX := hX.drewN nq
    replace hbel := below_drewN hbel nq
    generalize World.drewN _ nq = w1 at *
    have hw1 := hw.below hbel
    have x0 := hX.c0
    have x1 := hX.c1
    have x2 := hX.c2
    go_wp2_with (first
      | (go_at_call 153; refine (hF _ hw1).mono ?_; rintro e w2 ⟨rfl, hb2⟩; rw [HF.out]; have hA2 := hA.below hb2; have hX2 := hX.below hb2; have y0 := hX2.c0; have y1 := hX2.c1; have y2 := hX2.c2)
      | (go_at_call 154; refine (hN _ hA2).mono ?_; rintro e w3 ⟨rfl, hb3⟩; rw [HC.out]; have hA3 := hA2.below hb3; have z0 := (hX2.below hb3).c0)
      | (go_at_call 155; refine (close_any _ base g rb cap q r hA3 hl).mono ?_; rintro e w4 ⟨rfl, hA4, hT4⟩))
    go_ret
    exact ⟨rfl, ⟨rb, cap, r, rfl, hA4⟩, (((Tch.of_below hbel).trans (Tch.of_below hb2)).trans (Tch.of_below hb3)).trans hT4⟩

set_option maxHeartbeats 4000000 in
theorem step_deep (h : CRep w base g rb cap (q :: r)) (hl : r.length ≤ 6) (hw : NumW x.k w) (hs : x.t.size ≤ 140737488355328) (hf : formedB x = true) (hn : contB q.p.kind q.p.last x.k (emptyT x.t) = true) (hk : opensK x.k = true) (h6 : 6 ≤ r.length) :
    Calls Tryz.prog 146 #[.pointer (some ⟨g, 0, none⟩), evV x] w (SPost w base g (ptsOf (q :: r)) x) := by
  have hne : endsK x.k = false := opens_not_ends' hk
  have hE : stepE (ptsOf (q :: r)) x = 5 := by rw [ptsOf_cons]; simp only [stepE]; rw [if_neg (by rw [hf, hn]; decide), if_neg (by rw [hne]; decide), if_pos hk, if_pos (by rw [ptsOf_len]; exact h6)]
  have hS : stepS (ptsOf (q :: r)) x = ptsOf (q :: r) := by unfold stepS; rw [hE, if_neg (by decide)]
  have hr6 : r.length = 6 := by omega
  unfold SPost
  rw [hE, hS]
  clear hE hS hne
  have hF := fun w' h => formedV (x := x) (w' := w') h hs
  have hN := fun w' h => continuesV (base := base) (g := g) (rb := rb) (cap := cap) (q := q) (r := r) (x := x) (w' := w') h
  have hD : ∀ w', CRep w' base g rb cap (q :: r) → Calls Tryz.prog 156 #[.pointer (some ⟨g, 0, none⟩)] w' fun e w'' => e = .returned (.int .i64 6) ∧ w'' = w' := by
    intro w' hw'
    refine (depth_any w' base g _ ⟨rb, cap, q :: r, rfl, hw'⟩ (by rw [ptsOf_len]; simp; omega)).mono ?_
    rintro e w'' ⟨rfl, rfl⟩
    rw [ptsOf_len, List.length_cons, hr6]
    exact ⟨rfl, rfl⟩
  clear hr6 h6
  unfold evV
  have HF := Lib.hid hf
  have HC := Lib.hid hn
  clear hf hn
  unfold opensK at hk
  rw [decide_eq_true_iff] at hk
  have hA := h.alloc (.cells #[.int .i64 x.k, .string x.t, .string x.v] 46)
  have hX := EvAt.new w x
  have hbel := (Below.refl w.heap.size w).alloc (Nat.le_refl _) (.cells #[.int .i64 x.k, .string x.t, .string x.v] 46)
  obtain ⟨k, t, v⟩ := x
  simp only at *
  rcases hk with rfl | rfl | rfl
  all_goals
    have hc := hA.c
    have hltA := hA.lt
    have hlrA := hA.rb_lt
    go_enter Tryz.func146, Tryz.ntmps146
    go_wp2_with fail
    go_quiet (fail)
    rename_i nq
    replace hA := hA.drewN nq
    replace hX := hX.drewN nq
    replace hbel := below_drewN hbel nq
    generalize World.drewN _ nq = w1 at *
    have hw1 := hw.below hbel
    have x0 := hX.c0
    have x1 := hX.c1
    have x2 := hX.c2
    go_wp2_with (first
      | (go_at_call 153; refine (hF _ hw1).mono ?_; rintro e w2 ⟨rfl, hb2⟩; rw [HF.out]; have hA2 := hA.below hb2; have hX2 := hX.below hb2; have y0 := hX2.c0; have y1 := hX2.c1; have y2 := hX2.c2)
      | (go_at_call 154; refine (hN _ hA2).mono ?_; rintro e w3 ⟨rfl, hb3⟩; rw [HC.out]; have hA3 := hA2.below hb3; have z0 := (hX2.below hb3).c0)
      | (go_at_call 156; refine (hD _ hA3).mono ?_; rintro e w4 ⟨rfl, rfl⟩))
    go_ret
    exact ⟨rfl, ⟨rb, cap, q :: r, rfl, hA3⟩, ((Tch.of_below hbel).trans (Tch.of_below hb2)).trans (Tch.of_below hb3)⟩
end
end Go.Proofs.YtjepnddndpmnnaaGreat
namespace Go.Proofs.YtjepnddndpmnnaaGreat
open Go.RowKit Go.Maps
set_option maxRecDepth 100000
set_option linter.unusedSectionVars false
variable [Tab] [Fo]

section
variable (w : World) (base g rb cap : Nat) (q : PQ) (r : List PQ) (x : Ev)

set_option maxHeartbeats 4000000 in
theorem step_plain (h : CRep w base g rb cap (q :: r)) (hl : r.length ≤ 6) (hw : NumW x.k w) (hs : x.t.size ≤ 140737488355328) (hf : formedB x = true) (hn : contB q.p.kind q.p.last x.k (emptyT x.t) = true) (hk : x.k = 1 ∨ x.k = 2 ∨ x.k = 3 ∨ x.k = 4) :
    Calls Tryz.prog 146 #[.pointer (some ⟨g, 0, none⟩), evV x] w (SPost w base g (ptsOf (q :: r)) x) := by
  have hne : endsK x.k = false := by unfold endsK; rw [decide_eq_false_iff_not]; omega
  have hno : opensK x.k = false := by unfold opensK; rw [decide_eq_false_iff_not]; omega
  have hE : stepE (ptsOf (q :: r)) x = 0 := by rw [ptsOf_cons]; simp only [stepE]; rw [if_neg (by rw [hf, hn]; decide), if_neg (by rw [hne]; decide), if_neg (by rw [hno]; decide), if_neg (by omega)]
  have hS : stepS (ptsOf (q :: r)) x = ptsOf (⟨{ q.p with last := x.k }, q.m⟩ :: r) := by
    unfold stepS; rw [hE, if_pos rfl, ptsOf_cons]; simp only [goS]; rw [if_neg (by rw [hne]; decide), if_neg (by rw [hno]; decide), if_neg (by omega)]; rfl
  unfold SPost
  rw [hE, hS]
  clear hE hS hne hno
  have hF := fun w' h => formedV (x := x) (w' := w') h hs
  have hN := fun w' h => continuesV (base := base) (g := g) (rb := rb) (cap := cap) (q := q) (r := r) (x := x) (w' := w') h
  unfold evV
  have HF := Lib.hid hf
  have HC := Lib.hid hn
  clear hf hn
  have hA := h.alloc (.cells #[.int .i64 x.k, .string x.t, .string x.v] 46)
  have hX := EvAt.new w x
  have hbel := (Below.refl w.heap.size w).alloc (Nat.le_refl _) (.cells #[.int .i64 x.k, .string x.t, .string x.v] 46)
  obtain ⟨k, t, v⟩ := x
  simp only at *
  rcases hk with rfl | rfl | rfl | rfl
  all_goals
    have hc := hA.c
    have hltA := hA.lt
    have hlrA := hA.rb_lt
    go_enter Tryz.func146, Tryz.ntmps146
    go_wp2_with fail
    go_quiet (fail)
    rename_i nq
    replace hA := hA.drewN nq
    replace hX := hX.drewN nq
    replace hbel := below_drewN hbel nq
    generalize World.drewN _ nq = w1 at *
    have hw1 := hw.below hbel
    have x0 := hX.c0
    have x1 := hX.c1
    have x2 := hX.c2
    go_wp2_with (first
      | (go_at_call 153; refine (hF _ hw1).mono ?_; rintro e w2 ⟨rfl, hb2⟩; rw [HF.out]; have hA2 := hA.below hb2; have hX2 := hX.below hb2; have y0 := hX2.c0; have y1 := hX2.c1; have y2 := hX2.c2)
      | (go_at_call 154; refine (hN _ hA2).mono ?_; rintro e w3 ⟨rfl, hb3⟩; rw [HC.out]; have hA3 := hA2.below hb3; have z0 := (hX2.below hb3).c0; have fz := hA3.frz (r.length * 3 + 1); have lc := hA3.c1; have lr := hA3.rb_lt))
    go_ret
    exact ⟨rfl, ⟨rb, cap, _, rfl, hA3.set_last _⟩, (((Tch.of_below hbel).trans (Tch.of_below hb2)).trans (Tch.of_below hb3)).trans (hA3.touch _ _)⟩

set_option maxHeartbeats 4000000 in
theorem step_key (h : CRep w base g rb cap (q :: r)) (hl : r.length ≤ 6) (hw : NumW x.k w) (hs : x.t.size ≤ 140737488355328) (hf : formedB x = true) (hn : contB q.p.kind q.p.last x.k (emptyT x.t) = true) (hk : x.k = 8 ∨ x.k = 11) :
    Calls Tryz.prog 146 #[.pointer (some ⟨g, 0, none⟩), evV x] w (SPost w base g (ptsOf (q :: r)) x) := by
  have hne : endsK x.k = false := by unfold endsK; rw [decide_eq_false_iff_not]; omega
  have hno : opensK x.k = false := by unfold opensK; rw [decide_eq_false_iff_not]; omega
  have hE : stepE (ptsOf (q :: r)) x = addE q.p.keys x.t.data.toList := by rw [ptsOf_cons]; simp only [stepE]; rw [if_neg (by rw [hf, hn]; decide), if_neg (by rw [hne]; decide), if_neg (by rw [hno]; decide), if_pos hk]; rfl
  have hF := fun w' h => formedV (x := x) (w' := w') h hs
  have hN := fun w' h => continuesV (base := base) (g := g) (rb := rb) (cap := cap) (q := q) (r := r) (x := x) (w' := w') h
  have hD := fun w' (h : CRep w' base g rb cap (q :: r)) => add_any w' base g rb cap q r x.t h hs
  have HF := Lib.hid hf
  have HC := Lib.hid hn
  clear hf hn
  have hA := h.alloc (.cells #[.int .i64 x.k, .string x.t, .string x.v] 46)
  have hX := EvAt.new w x
  have hbel := (Below.refl w.heap.size w).alloc (Nat.le_refl _) (.cells #[.int .i64 x.k, .string x.t, .string x.v] 46)
  by_cases hz : addE q.p.keys x.t.data.toList = 0
  · have hS : stepS (ptsOf (q :: r)) x = ptsOf (⟨{ q.p with last := x.k, keys := addK q.p.keys x.t.data.toList }, q.m⟩ :: r) := by
      unfold stepS; rw [hE, if_pos hz, ptsOf_cons]; simp only [goS]; rw [if_neg (by rw [hne]; decide), if_neg (by rw [hno]; decide), if_pos hk]; unfold addK; rw [if_pos hz]; rfl
    unfold SPost
    rw [hE, hS]
    clear hE hS hne hno
    unfold APost at hD
    rw [hz] at hD ⊢
    have hz' : (0 : Int) ≠ 1 := by decide
    generalize addK q.p.keys x.t.data.toList = ks at *
    unfold evV
    obtain ⟨k, t, v⟩ := x
    simp only at *
    rcases hk with rfl | rfl
    all_goals
      have hc := hA.c
      have hltA := hA.lt
      have hlrA := hA.rb_lt
      go_enter Tryz.func146, Tryz.ntmps146
      go_wp2_with fail
      go_quiet (fail)
      rename_i nq
      replace hA := hA.drewN nq
      replace hX := hX.drewN nq
      replace hbel := below_drewN hbel nq
      generalize World.drewN _ nq = w1 at *
      have hw1 := hw.below hbel
      have x0 := hX.c0
      have x1 := hX.c1
      have x2 := hX.c2
      go_wp2_with (first
        | (go_at_call 153; refine (hF _ hw1).mono ?_; rintro e w2 ⟨rfl, hb2⟩; rw [HF.out]; have hA2 := hA.below hb2; have hX2 := hX.below hb2; have y0 := hX2.c0; have y1 := hX2.c1; have y2 := hX2.c2)
        | (go_at_call 154; refine (hN _ hA2).mono ?_; rintro e w3 ⟨rfl, hb3⟩; rw [HC.out]; have hA3 := hA2.below hb3; have hX3 := hX2.below hb3; have z0 := hX3.c0; have z1 := hX3.c1)
        | (go_at_call 157; refine (hD _ hA3).mono ?_; rintro e w4 ⟨rfl, ⟨m', hA4⟩, hT4⟩; have u0 := (hX3.of_c hT4).c0; have fz := hA4.frz (r.length * 3 + 1); have lc := hA4.c1; have lr := hA4.rb_lt))
      go_ret
      exact ⟨rfl, ⟨rb, cap, ⟨_, m'⟩ :: r, rfl, hA4.set_last _⟩, ((((Tch.of_below hbel).trans (Tch.of_below hb2)).trans (Tch.of_below hb3)).trans hT4).trans (hA4.touch _ _)⟩
  · have hS : stepS (ptsOf (q :: r)) x = ptsOf (⟨{ q.p with keys := addK q.p.keys x.t.data.toList }, q.m⟩ :: r) := by
      unfold stepS; rw [hE, if_neg hz]; unfold addK; rw [if_neg hz]
    unfold SPost
    rw [hE, hS]
    clear hE hS hne hno
    unfold APost at hD
    generalize addK q.p.keys x.t.data.toList = ks at *
    generalize addE q.p.keys x.t.data.toList = E at *
    have e0 := ne_beq hz
    have e1 := ne_bne hz
    unfold evV
    obtain ⟨k, t, v⟩ := x
    simp only at *
    rcases hk with rfl | rfl
    all_goals
      have hc := hA.c
      have hltA := hA.lt
      have hlrA := hA.rb_lt
      go_enter Tryz.func146, Tryz.ntmps146
      go_wp2_with fail
      go_quiet (fail)
      rename_i nq
      replace hA := hA.drewN nq
      replace hX := hX.drewN nq
      replace hbel := below_drewN hbel nq
      generalize World.drewN _ nq = w1 at *
      have hw1 := hw.below hbel
      have x0 := hX.c0
      have x1 := hX.c1
      have x2 := hX.c2
      go_wp2_with (first
        | (go_at_call 153; refine (hF _ hw1).mono ?_; rintro e w2 ⟨rfl, hb2⟩; rw [HF.out]; have hA2 := hA.below hb2; have hX2 := hX.below hb2; have y0 := hX2.c0; have y1 := hX2.c1; have y2 := hX2.c2)
        | (go_at_call 154; refine (hN _ hA2).mono ?_; rintro e w3 ⟨rfl, hb3⟩; rw [HC.out]; have hA3 := hA2.below hb3; have hX3 := hX2.below hb3; have z0 := hX3.c0; have z1 := hX3.c1)
        | (go_at_call 157; refine (hD _ hA3).mono ?_; rintro e w4 ⟨rfl, ⟨m', hA4⟩, hT4⟩))
      go_ret
      exact ⟨rfl, ⟨rb, cap, ⟨_, m'⟩ :: r, rfl, hA4⟩, (((Tch.of_below hbel).trans (Tch.of_below hb2)).trans (Tch.of_below hb3)).trans hT4⟩
end
end Go.Proofs.YtjepnddndpmnnaaGreat
