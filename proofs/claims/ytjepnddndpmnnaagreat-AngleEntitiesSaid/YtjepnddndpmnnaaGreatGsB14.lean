/-
  events: Step of a Check: refused, or closing.
  events: Step of a Check: an End, a thing too deep, a key, anything else.
  events: Step of a Check: a value that opens nothing, a key.
  events: Step of a Check where a thing opens; Step, whole.
-/
import Derived.Test.YtjepnddndpmnnaaGreatGsB13
namespace Go.Proofs.YtjepnddndpmnnaaGreat
open Go.RowKit Go.Maps
set_option maxRecDepth 100000
set_option linter.unusedSectionVars false
variable [Tab] [Fo]

/-- What Step leaves. -/
def SPost (w : World) (base g : Nat) (st : List Pt) (x : Ev) (e : Ending) (w' : World) : Prop :=
  e = .returned (.int .i64 (stepE st x)) ∧ CAt w' base g (stepS st x) ∧ Tch base cObj w w'

section
variable (w : World) (base g rb cap : Nat) (q : PQ) (r : List PQ) (x : Ev)
theorem EvAt.set {w : World} {b : Nat} {x : Ev} (h : EvAt w b x) {p : Addr} (hp : b ≠ p.block) (u : Value) : EvAt (w.setCell p u) b x := Blk.far h hp u
theorem EvAt.of_c {w w' : World} {base b : Nat} {x : Ev} (h : EvAt w b x) (ht : Tch base cObj w w') : EvAt w' b x := Blk.tch h ht (.inr (by simp only [cObj]; decide))
theorem opens_not_ends' {k : Int} (h : opensK k = true) : endsK k = false := by
  unfold opensK at h; unfold endsK; rw [decide_eq_true_iff] at h; rw [decide_eq_false_iff_not]; omega
theorem ptsOf_cons (q : PQ) (r : List PQ) : ptsOf (q :: r) = q.p :: ptsOf r := rfl
theorem ptsOf_len (r : List PQ) : (ptsOf r).length = r.length := by simp [ptsOf]

theorem formedV {w' : World} (hw : NumW x.k w') (hs : x.t.size ≤ 140737488355328) : Calls Tryz.prog 153 #[.agg #[.int .i64 x.k, .string x.t, .string x.v]] w' (FPost x w') := formed_any x w' hw hs
theorem continuesV {w' : World} (h : CRep w' base g rb cap (q :: r)) : Calls Tryz.prog 154 #[.pointer (some ⟨rb, r.length * 3, none⟩), .agg #[.int .i64 x.k, .string x.t, .string x.v]] w' fun e w'' => e = .returned (.bool (contB q.p.kind q.p.last x.k (emptyT x.t))) ∧ Below w'.heap.size w' w'' :=
  continues_any rb (r.length * 3) q.p.last x w' q.p.kind h.c0 h.c1

set_option maxHeartbeats 4000000 in
theorem step_bad (h : CRep w base g rb cap (q :: r)) (hl : r.length ≤ 6) (hw : NumW x.k w) (hs : x.t.size ≤ 140737488355328) (hb : formedB x = false ∨ contB q.p.kind q.p.last x.k (emptyT x.t) = false) :
    Calls Tryz.prog 146 #[.pointer (some ⟨g, 0, none⟩), evV x] w (SPost w base g (ptsOf (q :: r)) x) := by
  have hE : stepE (ptsOf (q :: r)) x = 19 := by rw [ptsOf_cons]; simp only [stepE]; rw [if_pos hb]
  have hS : stepS (ptsOf (q :: r)) x = ptsOf (q :: r) := by unfold stepS; rw [hE, if_neg (by decide)]
  unfold SPost
  rw [hE, hS]
  clear hE hS
  have hA := h.alloc (.cells #[.int .i64 x.k, .string x.t, .string x.v] 46)
  have hX := EvAt.new w x
  have hbel := (Below.refl w.heap.size w).alloc (Nat.le_refl _) (.cells #[.int .i64 x.k, .string x.t, .string x.v] 46)
  have hc := hA.c
  have hltA := hA.lt
  have hlrA := hA.rb_lt
  have hF := fun w' h => formedV (x := x) (w' := w') h hs
  have hN := fun w' h => continuesV (base := base) (g := g) (rb := rb) (cap := cap) (q := q) (r := r) (x := x) (w' := w') h
  unfold evV
  rcases hb with hf | hf
  · have HF := Lib.hid hf
    clear hf
    go_enter Tryz.func146, Tryz.ntmps146
    go_wp2_with fail
    go_quiet (fail)
    rename_i nq
    replace hA := hA.drewN nq
    replace hX := hX.drewN nq
    replace hbel := below_drewN hbel nq
    generalize (w.alloc (.cells #[.int .i64 x.k, .string x.t, .string x.v] 46)).drewN nq = w1 at *
    have hw1 := hw.below hbel
    have x0 := hX.c0
    have x1 := hX.c1
    have x2 := hX.c2
    go_wp2_with (first
      | (go_at_call 153; refine (hF _ hw1).mono ?_; rintro e w2 ⟨rfl, hb2⟩; rw [HF.out]))
    go_ret
    exact ⟨rfl, ⟨rb, cap, q :: r, rfl, hA.below hb2⟩, (Tch.of_below hbel).trans (Tch.of_below hb2)⟩
  · cases hf2 : formedB x with
    | false =>
      have HF := Lib.hid hf2
      clear hf2 hf
      go_enter Tryz.func146, Tryz.ntmps146
      go_wp2_with fail
      go_quiet (fail)
      rename_i nq
      replace hA := hA.drewN nq
      replace hX := hX.drewN nq
      replace hbel := below_drewN hbel nq
      generalize (w.alloc (.cells #[.int .i64 x.k, .string x.t, .string x.v] 46)).drewN nq = w1 at *
      have hw1 := hw.below hbel
      have x0 := hX.c0
      have x1 := hX.c1
      have x2 := hX.c2
      go_wp2_with (first
        | (go_at_call 153; refine (hF _ hw1).mono ?_; rintro e w2 ⟨rfl, hb2⟩; rw [HF.out]))
      go_ret
      exact ⟨rfl, ⟨rb, cap, q :: r, rfl, hA.below hb2⟩, (Tch.of_below hbel).trans (Tch.of_below hb2)⟩
    | true =>
      have HF := Lib.hid hf2
      have HC := Lib.hid hf
      clear hf2 hf
      go_enter Tryz.func146, Tryz.ntmps146
      go_wp2_with fail
      go_quiet (fail)
      rename_i nq
      replace hA := hA.drewN nq
      replace hX := hX.drewN nq
      replace hbel := below_drewN hbel nq
      generalize (w.alloc (.cells #[.int .i64 x.k, .string x.t, .string x.v] 46)).drewN nq = w1 at *
      have hw1 := hw.below hbel
      have x0 := hX.c0
      have x1 := hX.c1
      have x2 := hX.c2
      go_wp2_with (first
        | (go_at_call 153; refine (hF _ hw1).mono ?_; rintro e w2 ⟨rfl, hb2⟩; rw [HF.out]; have hA2 := hA.below hb2; have hX2 := hX.below hb2; have y0 := hX2.c0; have y1 := hX2.c1; have y2 := hX2.c2)
        | (go_at_call 154; refine (hN _ hA2).mono ?_; rintro e w3 ⟨rfl, hb3⟩; rw [HC.out]))
      go_ret
      exact ⟨rfl, ⟨rb, cap, q :: r, rfl, hA2.below hb3⟩, ((Tch.of_below hbel).trans (Tch.of_below hb2)).trans (Tch.of_below hb3)⟩
end
end Go.Proofs.YtjepnddndpmnnaaGreat
namespace Go.Proofs.YtjepnddndpmnnaaGreat
open Go.RowKit Go.Maps
set_option maxRecDepth 100000
set_option linter.unusedSectionVars false
variable [Tab] [Fo]

section
variable (w : World) (base g rb cap : Nat) (q : PQ) (r : List PQ) (x : Ev)

set_option maxHeartbeats 4000000 in
theorem step_close (h : CRep w base g rb cap (q :: r)) (hl : r.length ≤ 6) (hw : NumW x.k w) (hs : x.t.size ≤ 140737488355328) (hf : formedB x = true) (hn : contB q.p.kind q.p.last x.k (emptyT x.t) = true) (hk : endsK x.k = true) :
    Calls Tryz.prog 146 #[.pointer (some ⟨g, 0, none⟩), evV x] w (SPost w base g (ptsOf (q :: r)) x) := by
  have hE : stepE (ptsOf (q :: r)) x = 0 := by rw [ptsOf_cons]; simp only [stepE]; rw [if_neg (by rw [hf, hn]; decide), if_pos hk]
  have hS : stepS (ptsOf (q :: r)) x = ptsOf r := by unfold stepS; rw [hE, if_pos rfl, ptsOf_cons]; simp only [goS]; rw [if_pos hk]
  unfold SPost
  rw [hE, hS]
  clear hE hS
  have hF := fun w' h => formedV (x := x) (w' := w') h hs
  have hN := fun w' h => continuesV (base := base) (g := g) (rb := rb) (cap := cap) (q := q) (r := r) (x := x) (w' := w') h
  unfold evV
  have HF := Lib.hid hf
  have HC := Lib.hid hn
  clear hf hn
  unfold endsK at hk
  rw [decide_eq_true_iff] at hk
  have hA := h.alloc (.cells #[.int .i64 x.k, .string x.t, .string x.v] 46)
  have hX := EvAt.new w x
  have hbel := (Below.refl w.heap.size w).alloc (Nat.le_refl _) (.cells #[.int .i64 x.k, .string x.t, .string x.v] 46)
  obtain ⟨k, t, v⟩ := x
  simp only at *
  rcases hk with rfl | rfl | rfl
  all_goals
    have hc := hA.c
    have hltA := hA.lt
    have hlrA := hA.rb_lt
    go_enter Tryz.func146, Tryz.ntmps146
    go_wp2_with fail
    go_quiet (fail)
    rename_i nq
    replace hA := hA.drewN nq
    replace hX := hX.drewN nq
    replace hbel := below_drewN hbel nq
    generalize World.drewN _ nq = w1 at *
    have hw1 := hw.below hbel
    have x0 := hX.c0
    have x1 := hX.c1
    have x2 := hX.c2
    go_wp2_with (first
      | (go_at_call 153; refine (hF _ hw1).mono ?_; rintro e w2 ⟨rfl, hb2⟩; rw [HF.out]; have hA2 := hA.below hb2; have hX2 := hX.below hb2; have y0 := hX2.c0; have y1 := hX2.c1; have y2 := hX2.c2)
      | (go_at_call 154; refine (hN _ hA2).mono ?_; rintro e w3 ⟨rfl, hb3⟩; rw [HC.out]; have hA3 := hA2.below hb3; have z0 := (hX2.below hb3).c0)
      | (go_at_call 155; refine (close_any _ base g rb cap q r hA3 hl).mono ?_; rintro e w4 ⟨rfl, hA4, hT4⟩))
    go_ret
    exact ⟨rfl, ⟨rb, cap, r, rfl, hA4⟩, (((Tch.of_below hbel).trans (Tch.of_below hb2)).trans (Tch.of_below hb3)).trans hT4⟩

set_option maxHeartbeats 4000000 in
theorem step_deep (h : CRep w base g rb cap (q :: r)) (hl : r.length ≤ 6) (hw : NumW x.k w) (hs : x.t.size ≤ 140737488355328) (hf : formedB x = true) (hn : contB q.p.kind q.p.last x.k (emptyT x.t) = true) (hk : opensK x.k = true) (h6 : 6 ≤ r.length) :
    Calls Tryz.prog 146 #[.pointer (some ⟨g, 0, none⟩), evV x] w (SPost w base g (ptsOf (q :: r)) x) := by
  have hne : endsK x.k = false := opens_not_ends' hk
  have hE : stepE (ptsOf (q :: r)) x = 5 := by rw [ptsOf_cons]; simp only [stepE]; rw [if_neg (by rw [hf, hn]; decide), if_neg (by rw [hne]; decide), if_pos hk, if_pos (by rw [ptsOf_len]; exact h6)]
  have hS : stepS (ptsOf (q :: r)) x = ptsOf (q :: r) := by unfold stepS; rw [hE, if_neg (by decide)]
  have hr6 : r.length = 6 := by omega
  unfold SPost
  rw [hE, hS]
  clear hE hS hne
  have hF := fun w' h => formedV (x := x) (w' := w') h hs
  have hN := fun w' h => continuesV (base := base) (g := g) (rb := rb) (cap := cap) (q := q) (r := r) (x := x) (w' := w') h
  have hD : ∀ w', CRep w' base g rb cap (q :: r) → Calls Tryz.prog 156 #[.pointer (some ⟨g, 0, none⟩)] w' fun e w'' => e = .returned (.int .i64 6) ∧ w'' = w' := by
    intro w' hw'
    refine (depth_any w' base g _ ⟨rb, cap, q :: r, rfl, hw'⟩ (by rw [ptsOf_len]; simp; omega)).mono ?_
    rintro e w'' ⟨rfl, rfl⟩
    rw [ptsOf_len, List.length_cons, hr6]
    exact ⟨rfl, rfl⟩
  clear hr6 h6
  unfold evV
  have HF := Lib.hid hf
  have HC := Lib.hid hn
  clear hf hn
  unfold opensK at hk
  rw [decide_eq_true_iff] at hk
  have hA := h.alloc (.cells #[.int .i64 x.k, .string x.t, .string x.v] 46)
  have hX := EvAt.new w x
  have hbel := (Below.refl w.heap.size w).alloc (Nat.le_refl _) (.cells #[.int .i64 x.k, .string x.t, .string x.v] 46)
  obtain ⟨k, t, v⟩ := x
  simp only at *
  rcases hk with rfl | rfl | rfl
  all_goals
    have hc := hA.c
    have hltA := hA.lt
    have hlrA := hA.rb_lt
    go_enter Tryz.func146, Tryz.ntmps146
    go_wp2_with fail
    go_quiet (fail)
    rename_i nq
    replace hA := hA.drewN nq
    replace hX := hX.drewN nq
    replace hbel := below_drewN hbel nq
    generalize World.drewN _ nq = w1 at *
    have hw1 := hw.below hbel
    have x0 := hX.c0
    have x1 := hX.c1
    have x2 := hX.c2
    go_wp2_with (first
      | (go_at_call 153; refine (hF _ hw1).mono ?_; rintro e w2 ⟨rfl, hb2⟩; rw [HF.out]; have hA2 := hA.below hb2; have hX2 := hX.below hb2; have y0 := hX2.c0; have y1 := hX2.c1; have y2 := hX2.c2)
      | (go_at_call 154; refine (hN _ hA2).mono ?_; rintro e w3 ⟨rfl, hb3⟩; rw [HC.out]; have hA3 := hA2.below hb3; have z0 := (hX2.below hb3).c0)
      | (go_at_call 156; refine (hD _ hA3).mono ?_; rintro e w4 ⟨rfl, rfl⟩))
    go_ret
    exact ⟨rfl, ⟨rb, cap, q :: r, rfl, hA3⟩, ((Tch.of_below hbel).trans (Tch.of_below hb2)).trans (Tch.of_below hb3)⟩
end
end Go.Proofs.YtjepnddndpmnnaaGreat
namespace Go.Proofs.YtjepnddndpmnnaaGreat
open Go.RowKit Go.Maps
set_option maxRecDepth 100000
set_option linter.unusedSectionVars false
variable [Tab] [Fo]

section
variable (w : World) (base g rb cap : Nat) (q : PQ) (r : List PQ) (x : Ev)

set_option maxHeartbeats 4000000 in
theorem step_plain (h : CRep w base g rb cap (q :: r)) (hl : r.length ≤ 6) (hw : NumW x.k w) (hs : x.t.size ≤ 140737488355328) (hf : formedB x = true) (hn : contB q.p.kind q.p.last x.k (emptyT x.t) = true) (hk : x.k = 1 ∨ x.k = 2 ∨ x.k = 3 ∨ x.k = 4) :
    Calls Tryz.prog 146 #[.pointer (some ⟨g, 0, none⟩), evV x] w (SPost w base g (ptsOf (q :: r)) x) := by
  have hne : endsK x.k = false := by unfold endsK; rw [decide_eq_false_iff_not]; omega
  have hno : opensK x.k = false := by unfold opensK; rw [decide_eq_false_iff_not]; omega
  have hE : stepE (ptsOf (q :: r)) x = 0 := by rw [ptsOf_cons]; simp only [stepE]; rw [if_neg (by rw [hf, hn]; decide), if_neg (by rw [hne]; decide), if_neg (by rw [hno]; decide), if_neg (by omega)]
  have hS : stepS (ptsOf (q :: r)) x = ptsOf (⟨{ q.p with last := x.k }, q.m⟩ :: r) := by
    unfold stepS; rw [hE, if_pos rfl, ptsOf_cons]; simp only [goS]; rw [if_neg (by rw [hne]; decide), if_neg (by rw [hno]; decide), if_neg (by omega)]; rfl
  unfold SPost
  rw [hE, hS]
  clear hE hS hne hno
  have hF := fun w' h => formedV (x := x) (w' := w') h hs
  have hN := fun w' h => continuesV (base := base) (g := g) (rb := rb) (cap := cap) (q := q) (r := r) (x := x) (w' := w') h
  unfold evV
  have HF := Lib.hid hf
  have HC := Lib.hid hn
  clear hf hn
  have hA := h.alloc (.cells #[.int .i64 x.k, .string x.t, .string x.v] 46)
  have hX := EvAt.new w x
  have hbel := (Below.refl w.heap.size w).alloc (Nat.le_refl _) (.cells #[.int .i64 x.k, .string x.t, .string x.v] 46)
  obtain ⟨k, t, v⟩ := x
  simp only at *
  rcases hk with rfl | rfl | rfl | rfl
  all_goals
    have hc := hA.c
    have hltA := hA.lt
    have hlrA := hA.rb_lt
    go_enter Tryz.func146, Tryz.ntmps146
    go_wp2_with fail
    go_quiet (fail)
    rename_i nq
    replace hA := hA.drewN nq
    replace hX := hX.drewN nq
    replace hbel := below_drewN hbel nq
    generalize World.drewN _ nq = w1 at *
    have hw1 := hw.below hbel
    have x0 := hX.c0
    have x1 := hX.c1
    have x2 := hX.c2
    go_wp2_with (first
      | (go_at_call 153; refine (hF _ hw1).mono ?_; rintro e w2 ⟨rfl, hb2⟩; rw [HF.out]; have hA2 := hA.below hb2; have hX2 := hX.below hb2; have y0 := hX2.c0; have y1 := hX2.c1; have y2 := hX2.c2)
      | (go_at_call 154; refine (hN _ hA2).mono ?_; rintro e w3 ⟨rfl, hb3⟩; rw [HC.out]; have hA3 := hA2.below hb3; have z0 := (hX2.below hb3).c0; have fz := hA3.frz (r.length * 3 + 1); have lc := hA3.c1; have lr := hA3.rb_lt))
    go_ret
    exact ⟨rfl, ⟨rb, cap, _, rfl, hA3.set_last _⟩, (((Tch.of_below hbel).trans (Tch.of_below hb2)).trans (Tch.of_below hb3)).trans (hA3.touch _ _)⟩

set_option maxHeartbeats 4000000 in
theorem step_key (h : CRep w base g rb cap (q :: r)) (hl : r.length ≤ 6) (hw : NumW x.k w) (hs : x.t.size ≤ 140737488355328) (hf : formedB x = true) (hn : contB q.p.kind q.p.last x.k (emptyT x.t) = true) (hk : x.k = 8 ∨ x.k = 11) :
    Calls Tryz.prog 146 #[.pointer (some ⟨g, 0, none⟩), evV x] w (SPost w base g (ptsOf (q :: r)) x) := by
  have hne : endsK x.k = false := by unfold endsK; rw [decide_eq_false_iff_not]; omega
  have hno : opensK x.k = false := by unfold opensK; rw [decide_eq_false_iff_not]; omega
  have hE : stepE (ptsOf (q :: r)) x = addE q.p.keys x.t.data.toList := by rw [ptsOf_cons]; simp only [stepE]; rw [if_neg (by rw [hf, hn]; decide), if_neg (by rw [hne]; decide), if_neg (by rw [hno]; decide), if_pos hk]; rfl
  have hF := fun w' h => formedV (x := x) (w' := w') h hs
  have hN := fun w' h => continuesV (base := base) (g := g) (rb := rb) (cap := cap) (q := q) (r := r) (x := x) (w' := w') h
  have hD := fun w' (h : CRep w' base g rb cap (q :: r)) => add_any w' base g rb cap q r x.t h hs
  have HF := Lib.hid hf
  have HC := Lib.hid hn
  clear hf hn
  have hA := h.alloc (.cells #[.int .i64 x.k, .string x.t, .string x.v] 46)
  have hX := EvAt.new w x
  have hbel := (Below.refl w.heap.size w).alloc (Nat.le_refl _) (.cells #[.int .i64 x.k, .string x.t, .string x.v] 46)
  by_cases hz : addE q.p.keys x.t.data.toList = 0
  · have hS : stepS (ptsOf (q :: r)) x = ptsOf (⟨{ q.p with last := x.k, keys := addK q.p.keys x.t.data.toList }, q.m⟩ :: r) := by
      unfold stepS; rw [hE, if_pos hz, ptsOf_cons]; simp only [goS]; rw [if_neg (by rw [hne]; decide), if_neg (by rw [hno]; decide), if_pos hk]; unfold addK; rw [if_pos hz]; rfl
    unfold SPost
    rw [hE, hS]
    clear hE hS hne hno
    unfold APost at hD
    rw [hz] at hD ⊢
    have hz' : (0 : Int) ≠ 1 := by decide
    generalize addK q.p.keys x.t.data.toList = ks at *
    unfold evV
    obtain ⟨k, t, v⟩ := x
    simp only at *
    rcases hk with rfl | rfl
    all_goals
      have hc := hA.c
      have hltA := hA.lt
      have hlrA := hA.rb_lt
      go_enter Tryz.func146, Tryz.ntmps146
      go_wp2_with fail
      go_quiet (fail)
      rename_i nq
      replace hA := hA.drewN nq
      replace hX := hX.drewN nq
      replace hbel := below_drewN hbel nq
      generalize World.drewN _ nq = w1 at *
      have hw1 := hw.below hbel
      have x0 := hX.c0
      have x1 := hX.c1
      have x2 := hX.c2
      go_wp2_with (first
        | (go_at_call 153; refine (hF _ hw1).mono ?_; rintro e w2 ⟨rfl, hb2⟩; rw [HF.out]; have hA2 := hA.below hb2; have hX2 := hX.below hb2; have y0 := hX2.c0; have y1 := hX2.c1; have y2 := hX2.c2)
        | (go_at_call 154; refine (hN _ hA2).mono ?_; rintro e w3 ⟨rfl, hb3⟩; rw [HC.out]; have hA3 := hA2.below hb3; have hX3 := hX2.below hb3; have z0 := hX3.c0; have z1 := hX3.c1)
        | (go_at_call 157; refine (hD _ hA3).mono ?_; rintro e w4 ⟨rfl, ⟨m', hA4⟩, hT4⟩; have u0 := (hX3.of_c hT4).c0; have fz := hA4.frz (r.length * 3 + 1); have lc := hA4.c1; have lr := hA4.rb_lt))
      go_ret
      exact ⟨rfl, ⟨rb, cap, ⟨_, m'⟩ :: r, rfl, hA4.set_last _⟩, ((((Tch.of_below hbel).trans (Tch.of_below hb2)).trans (Tch.of_below hb3)).trans hT4).trans (hA4.touch _ _)⟩
  · have hS : stepS (ptsOf (q :: r)) x = ptsOf (⟨{ q.p with keys := addK q.p.keys x.t.data.toList }, q.m⟩ :: r) := by
      unfold stepS; rw [hE, if_neg hz]; unfold addK; rw [if_neg hz]
    unfold SPost
    rw [hE, hS]
    clear hE hS hne hno
    unfold APost at hD
    generalize addK q.p.keys x.t.data.toList = ks at *
    generalize addE q.p.keys x.t.data.toList = E at *
    have e0 := ne_beq hz
    have e1 := ne_bne hz
    unfold evV
    obtain ⟨k, t, v⟩ := x
    simp only at *
    rcases hk with rfl | rfl
    all_goals
      have hc := hA.c
      have hltA := hA.lt
      have hlrA := hA.rb_lt
      go_enter Tryz.func146, Tryz.ntmps146
      go_wp2_with fail
      go_quiet (fail)
      rename_i nq
      replace hA := hA.drewN nq
      replace hX := hX.drewN nq
      replace hbel := below_drewN hbel nq
      generalize World.drewN _ nq = w1 at *
      have hw1 := hw.below hbel
      have x0 := hX.c0
      have x1 := hX.c1
      have x2 := hX.c2
      go_wp2_with (first
        | (go_at_call 153; refine (hF _ hw1).mono ?_; rintro e w2 ⟨rfl, hb2⟩; rw [HF.out]; have hA2 := hA.below hb2; have hX2 := hX.below hb2; have y0 := hX2.c0; have y1 := hX2.c1; have y2 := hX2.c2)
        | (go_at_call 154; refine (hN _ hA2).mono ?_; rintro e w3 ⟨rfl, hb3⟩; rw [HC.out]; have hA3 := hA2.below hb3; have hX3 := hX2.below hb3; have z0 := hX3.c0; have z1 := hX3.c1)
        | (go_at_call 157; refine (hD _ hA3).mono ?_; rintro e w4 ⟨rfl, ⟨m', hA4⟩, hT4⟩))
      go_ret
      exact ⟨rfl, ⟨rb, cap, ⟨_, m'⟩ :: r, rfl, hA4⟩, (((Tch.of_below hbel).trans (Tch.of_below hb2)).trans (Tch.of_below hb3)).trans hT4⟩
end
end Go.Proofs.YtjepnddndpmnnaaGreat
namespace Go.Proofs.YtjepnddndpmnnaaGreat
open Go.RowKit Go.Maps
set_option maxRecDepth 100000
set_option linter.unusedSectionVars false
variable [Tab] [Fo]

theorem Tryz.infoPart : (Tryz.prog.info? 145).map (fun i => (i.zero, i.size, i.bytes)) = some (some (.agg #[.int .i64 0, .int .i64 0, .map none]), 3, 24) := by kernel_rfl
theorem cellsOf3 (w : World) (a b c : Value) (t : TypeId) : ∀ j u, [a, b, c][j]? = some u → (w.alloc (.cells #[a, b, c] t)).cell? ((⟨w.heap.size, 0, none⟩ : Addr).add j) = some u := by
  intro j u hj
  rw [addr_add0]
  exact (Blk.new w t #[a, b, c]).cell j |>.trans (by simpa using hj)
theorem rowN_shape {w : World} {base : Nat} {e : TypeId} {size n : Nat} {v : Value} {xs : List Value} (h : w.ownsRow base e size v n xs) (hn : 0 < n) : ∃ r c, v = .slice (some ⟨r, 0, none⟩) n c := by
  rcases h.2 with ⟨rfl, rfl⟩ | ⟨g, cap, cur, rfl, _⟩
  · omega
  · exact ⟨_, _, rfl⟩

theorem CRep.far_row {w w2 : World} {base g rb cap : Nat} {qs : List PQ} {n : Nat} (h : CRep w base g rb cap qs) (hg : w.grownBy w2 (Value.slice (some ⟨rb, 0, none⟩) n cap).ownBlock) : Blk w2 g 148 #[.slice (some ⟨rb, 0, none⟩) qs.length cap] :=
  h.blk.grown hg (by intro e; injection e with e; exact h.rb_ne e)
theorem CRep.pushed {w w2 : World} {base g rb cap rb2 c2 : Nat} {qs : List PQ} {k : Int} (h : CRep w base g rb cap qs) (hg : w.grownBy w2 (Value.slice (some ⟨rb, 0, none⟩) qs.length cap).ownBlock) (hnb : NB w (Value.slice (some ⟨rb, 0, none⟩) qs.length cap) (Value.slice (some ⟨rb2, 0, none⟩) (qs.length + 1) c2))
    (hr : w2.ownsRow base 145 3 (.slice (some ⟨rb2, 0, none⟩) (qs.length + 1) c2) (qs.length + 1) (qcs qs ++ [.int .i64 k, .int .i64 0, .map none])) :
    CRep (w2.setCell ⟨g, 0, none⟩ (.slice (some ⟨rb2, 0, none⟩) (qs.length + 1) c2)) base g rb2 c2 (⟨⟨k, 0, []⟩, none⟩ :: qs) ∧ Tch base cObj w (w2.setCell ⟨g, 0, none⟩ (.slice (some ⟨rb2, 0, none⟩) (qs.length + 1) c2)) := by
  have hk2 := h.far_row hg
  obtain ⟨cur, hcur⟩ := h.row_obj
  have T1 : Tch base cObj w w2 := Tch.of_grown hg h.rb_ge h.nf.2.1 hcur (.inr rfl)
  have hnr : NF (Value.slice (some ⟨rb, 0, none⟩) qs.length cap) := fun g' e => by injection e with e; subst e; exact h.nf.2.1
  refine ⟨⟨h.hg, hk2.set_ 0 _, ?_, ?_, h.nf.1, hnr.nb hnb h.nf.2.2 rb2 rfl, Nat.le_trans h.nf.2.2 (Nat.le_trans hg.size (by simp [World.setCell]))⟩, T1.set hk2 h.hg h.nf.1 (.inl rfl) 0 _⟩
  · refine World.ownsRow.kept (row := some g) hr (only_setCell (p := ⟨g, 0, none⟩) (World.grownBy.refl _ (some g)) (.inl rfl) _) (.inr ?_)
    intro e
    obtain ⟨cur2, hcur2⟩ := Go.Proofs.YtjepnddndpmnnaaGreat.row_obj hr e
    unfold Blk at hk2
    rw [hk2] at hcur2
    cases hcur2
  · refine ⟨fun b hb => (by cases hb), rfl, ?_⟩
    refine h.maps.keep fun _ _ b _ hb => ?_
    have hne := h.map_ne hb
    refine (Below.heap_setCell w2 ⟨g, 0, none⟩ _ b hne.1).trans (hg.block b ?_ ?_)
    · obtain ⟨es, c, hb⟩ := hb
      exact (Array.getElem?_eq_some_iff.1 hb).1
    · intro e
      injection e with e
      exact hne.2 e

theorem CRep.set_lastX {w : World} {base g rb cap b : Nat} {q : PQ} {r : List PQ} {x : Ev} (h : CRep w base g rb cap (q :: r)) (hX : EvAt w b x) :
    CRep (w.setCell ⟨rb, r.length * 3 + 1, none⟩ (.int .i64 x.k)) base g rb cap (⟨{ q.p with last := x.k }, q.m⟩ :: r) ∧ Tch base cObj w (w.setCell ⟨rb, r.length * 3 + 1, none⟩ (.int .i64 x.k)) ∧
    EvAt (w.setCell ⟨rb, r.length * 3 + 1, none⟩ (.int .i64 x.k)) b x :=
  ⟨h.set_last _, h.touch _ _, hX.of_c (h.touch _ _)⟩
section
variable (w : World) (base g rb cap : Nat) (q : PQ) (r : List PQ) (x : Ev)
set_option maxHeartbeats 4000000 in
theorem step_open (h : CRep w base g rb cap (q :: r)) (hl : r.length ≤ 6) (hw : NumW x.k w) (hs : x.t.size ≤ 140737488355328) (hf : formedB x = true) (hn : contB q.p.kind q.p.last x.k (emptyT x.t) = true) (hk : opensK x.k = true) (h6 : ¬ 6 ≤ r.length) :
    Calls Tryz.prog 146 #[.pointer (some ⟨g, 0, none⟩), evV x] w (SPost w base g (ptsOf (q :: r)) x) := by
  have hne : endsK x.k = false := opens_not_ends' hk
  have hE : stepE (ptsOf (q :: r)) x = 0 := by rw [ptsOf_cons]; simp only [stepE]; rw [if_neg (by rw [hf, hn]; decide), if_neg (by rw [hne]; decide), if_pos hk, if_neg (by rw [ptsOf_len]; exact h6)]
  have hS : stepS (ptsOf (q :: r)) x = ptsOf (⟨⟨x.k, 0, []⟩, none⟩ :: ⟨{ q.p with last := x.k }, q.m⟩ :: r) := by
    unfold stepS; rw [hE, if_pos rfl, ptsOf_cons]; simp only [goS]; rw [if_neg (by rw [hne]; decide), if_pos hk]; rfl
  unfold SPost
  rw [hE, hS]
  clear hE hS hne
  have hF := fun w' h => formedV (x := x) (w' := w') h hs
  have hN := fun w' h => continuesV (base := base) (g := g) (rb := rb) (cap := cap) (q := q) (r := r) (x := x) (w' := w') h
  have hD : ∀ w', CRep w' base g rb cap (q :: r) → Calls Tryz.prog 156 #[.pointer (some ⟨g, 0, none⟩)] w' fun e w'' => e = .returned (.int .i64 r.length) ∧ w'' = w' := by
    intro w' hw'
    refine (depth_any w' base g _ ⟨rb, cap, q :: r, rfl, hw'⟩ (by rw [ptsOf_len]; simp; omega)).mono ?_
    rintro e w'' ⟨rfl, rfl⟩
    rw [ptsOf_len, List.length_cons]
    exact ⟨by congr 2; omega, rfl⟩
  unfold evV
  have HF := Lib.hid hf
  have HC := Lib.hid hn
  have h6i : (r.length : Int) < 6 := by omega
  clear hf hn h6
  unfold opensK at hk
  rw [decide_eq_true_iff] at hk
  have hA := h.alloc (.cells #[.int .i64 x.k, .string x.t, .string x.v] 46)
  have hX := EvAt.new w x
  have hbel := (Below.refl w.heap.size w).alloc (Nat.le_refl _) (.cells #[.int .i64 x.k, .string x.t, .string x.v] 46)
  obtain ⟨k, t, v⟩ := x
  simp only at *
  rcases hk with rfl | rfl | rfl
  all_goals
    have hc := hA.c
    have hltA := hA.lt
    have hlrA := hA.rb_lt
    go_enter Tryz.func146, Tryz.ntmps146
    go_wp2_with fail
    go_quiet (fail)
    rename_i nq
    replace hA := hA.drewN nq
    replace hX := hX.drewN nq
    replace hbel := below_drewN hbel nq
    generalize World.drewN _ nq = w1 at *
    have hw1 := hw.below hbel
    have x0 := hX.c0
    have x1 := hX.c1
    have x2 := hX.c2
    go_wp2_with (first
      | (go_at_call 153; refine (hF _ hw1).mono ?_; rintro e w2 ⟨rfl, hb2⟩; rw [HF.out]; have hA2 := hA.below hb2; have hX2 := hX.below hb2; have y0 := hX2.c0; have y1 := hX2.c1; have y2 := hX2.c2)
      | (go_at_call 154; refine (hN _ hA2).mono ?_; rintro e w3 ⟨rfl, hb3⟩; rw [HC.out]; have hA3 := hA2.below hb3; have hX3 := hX2.below hb3; have z0 := hX3.c0; have fz := hA3.frz (r.length * 3 + 1); have lc := hA3.c1; have lr := hA3.rb_lt)
      | (go_at_call 156; refine (hD _ hA3).mono ?_; rintro e w4 ⟨rfl, rfl⟩))
    obtain ⟨hA5, hT5, hX5⟩ := hA3.set_lastX hX3
    simp only at hA5 hT5 hX5
    generalize w4.setCell _ _ = w5 at *
    have d0 := hX5.c0
    have dc := hA5.c
    have gl := hA5.lt
    have el := Blk.lt hX5
    have hbs : base ≤ w5.heap.size := by have := hA5.hg; have := hA5.lt; omega
    have h63 : (r.length + 1) + 1 ≤ maxLen := by simp only [maxLen]; omega
    have h24 : ((r.length + 1) + 1) * 24 ≤ 140737488355328 := by omega
    have hrow := hA5.drew.row
    go_region_law ((refine step_appG (by rfl) (.tmp 51) (.tmp 55) 146 (by rfl) base 145 _ 3 24 Tryz.underlying146 Tryz.infoPart (by rfl) (by decide) (.slice (some ⟨rb, 0, none⟩) (r.length + 1) cap) (r.length + 1) _ [.int .i64 _, .int .i64 0, .map none] (by rfl) (by exact World.ownsRow.alloc hrow _) (by simp [Value.oneCell']) ⟨w5.heap.size, 0, none⟩ 1 1 (by rfl) (by rfl) (by exact cellsOf3 w5.drew _ _ _ _) h63 h24 (by simp; omega) ?_; intro v2 w6 hown hg6 hnb6; obtain ⟨rb2, c2, rfl⟩ := rowN_shape hown (Nat.succ_pos _); have hk6 := (hA5.drew.alloc (.cells #[.int .i64 _, .int .i64 0, .map none] 145)).far_row hg6; have ec0 := hk6.cell 0; have ef0 := hk6.frozen 0; have el0 := hk6.lt))
    all_goals
      go_wp2
      go_ret
      obtain ⟨r1, r2⟩ := (hA5.drew.alloc (.cells #[.int .i64 _, .int .i64 0, .map none] 145)).pushed hg6 hnb6 hown
      exact ⟨rfl, ⟨rb2, c2, _, rfl, r1⟩, ((((((Tch.of_below hbel).trans (Tch.of_below hb2)).trans (Tch.of_below hb3)).trans hT5).drew).alloc _).trans r2⟩

theorem step_rep (h : CRep w base g rb cap (q :: r)) (hl : r.length ≤ 6) (hw : NumW x.k w) (hs : x.t.size ≤ 140737488355328) :
    Calls Tryz.prog 146 #[.pointer (some ⟨g, 0, none⟩), evV x] w (SPost w base g (ptsOf (q :: r)) x) := by
  cases hf : formedB x with
  | false => exact step_bad w base g rb cap q r x h hl hw hs (.inl hf)
  | true =>
    cases hn : contB q.p.kind q.p.last x.k (emptyT x.t) with
    | false => exact step_bad w base g rb cap q r x h hl hw hs (.inr hn)
    | true =>
      by_cases h1 : endsK x.k = true
      · exact step_close w base g rb cap q r x h hl hw hs hf hn h1
      by_cases h2 : opensK x.k = true
      · by_cases h6 : 6 ≤ r.length
        · exact step_deep w base g rb cap q r x h hl hw hs hf hn h2 h6
        · exact step_open w base g rb cap q r x h hl hw hs hf hn h2 h6
      by_cases h3 : x.k = 8 ∨ x.k = 11
      · exact step_key w base g rb cap q r x h hl hw hs hf hn h3
      · refine step_plain w base g rb cap q r x h hl hw hs hf hn ?_
        unfold endsK at h1
        unfold opensK at h2
        rw [decide_eq_true_iff] at h1 h2
        unfold formedB bareK at hf
        repeat' split at hf
        all_goals first
          | omega
          | (exfalso; exact absurd hf (by decide))
          | (rename_i hb; rw [decide_eq_true_iff] at hb; omega)
end
theorem estep_any (w : World) (base g : Nat) (st : List Pt) (x : Ev) (h : CAt w base g st) (hg : Good st) (hw : NumW x.k w) (hs : x.t.size ≤ 140737488355328) :
    Calls Tryz.prog 146 #[.pointer (some ⟨g, 0, none⟩), evV x] w (SPost w base g st x) := by
  obtain ⟨rb, cap, qs, rfl, h⟩ := h
  cases qs with
  | nil => exact hg.1.elim
  | cons q r => exact step_rep w base g rb cap q r x h (by have := hg.2; rw [ptsOf_cons, List.length_cons, ptsOf_len] at this; omega) hw hs
end Go.Proofs.YtjepnddndpmnnaaGreat
