/-
  events: Step of a Check: a value that opens nothing, a key.
  events: Step of a Check where a thing opens; Step, whole.
  events: slices of events that can be read; Whole.
  What every row of this seat's laws shares: the variables that are listed, a world that holds them, what the walks lean on out of them; (stage 14).
  An event told to a Check: what waits then. Plain functions; no program is read here.
-/
import Derived.Test.YtjepnddndpmnnaaGreatDoorGwA13
import Derived.Test.YtjepnddndpmnnaaGreatDoorRows
import Derived.Test.YtjepnddndpmnnaaGreatDoorCards
import Derived.Test.YtjepnddndpmnnaaGreatDoorTie
import Derived.Deep.Slices
import Derived.Deep.Fields
import Derived.ChangeSame
import Derived.SizedLaws
import Derived.ProofKit
import Derived.OpenShut
import Derived.ShutString
import Derived.Deep.DeepHandedRow
import Derived.Lib.LaidTab
import Derived.Lay
import Derived.Stop.LaidErr
import Derived.SevenTiedAt
import Derived.Test.YtjepnddndpmnnaaGreatDoorGwA04
namespace Go.Proofs.YtjepnddndpmnnaaGreatDoor
open Go.RowKit Go.Maps
set_option maxRecDepth 100000
set_option linter.unusedSectionVars false
variable [Tab] [Fo]

section
variable (w : World) (base g rb cap : Nat) (q : PQ) (r : List PQ) (x : Ev)

set_option maxHeartbeats 4000000 in
theorem step_plain (h : CRep w base g rb cap (q :: r)) (hl : r.length ≤ 6) (hw : NumW x.k w) (hs : x.t.size ≤ 140737488355328) (hf : formedB x = true) (hn : contB q.p.kind q.p.last x.k (emptyT x.t) = true) (hk : x.k = 1 ∨ x.k = 2 ∨ x.k = 3 ∨ x.k = 4) :
    Calls Tryz.prog 11 #[.pointer (some ⟨g, 0, none⟩), evV x] w (SPost w base g (ptsOf (q :: r)) x) := by
  have hne : endsK x.k = false := by unfold endsK; rw [decide_eq_false_iff_not]; omega
  have hno : opensK x.k = false := by unfold opensK; rw [decide_eq_false_iff_not]; omega
  have hE : stepE (ptsOf (q :: r)) x = 0 := by rw [ptsOf_cons]; simp only [stepE]; rw [if_neg (by rw [hf, hn]; decide), if_neg (by rw [hne]; decide), if_neg (by rw [hno]; decide), if_neg (by omega)]
  have hS : stepS (ptsOf (q :: r)) x = ptsOf (⟨{ q.p with last := x.k }, q.m⟩ :: r) := by
    unfold stepS; rw [hE, if_pos rfl, ptsOf_cons]; simp only [goS]; rw [if_neg (by rw [hne]; decide), if_neg (by rw [hno]; decide), if_neg (by omega)]; rfl
  unfold SPost
  rw [hE, hS]
  clear hE hS hne hno
  have hF := fun w' h => formedV (x := x) (w' := w') h hs
  have hN := fun w' h => continuesV (base := base) (g := g) (rb := rb) (cap := cap) (q := q) (r := r) (x := x) (w' := w') h
  unfold evV
  have HF := Lib.hid hf
  have HC := Lib.hid hn
  clear hf hn
  have hA := h.alloc (.cells #[.int .i64 x.k, .string x.t, .string x.v] 38)
  have hX := EvAt.new w x
  have hbel := (Below.refl w.heap.size w).alloc (Nat.le_refl _) (.cells #[.int .i64 x.k, .string x.t, .string x.v] 38)
  obtain ⟨k, t, v⟩ := x
  simp only at *
  rcases hk with rfl | rfl | rfl | rfl
  all_goals
    have hc := hA.c
    have hltA := hA.lt
    have hlrA := hA.rb_lt
    go_enter Tryz.func11, Tryz.ntmps11
    go_wp2_with fail
    go_quiet (fail)
    rename_i nq
    replace hA := hA.drewN nq
    replace hX := hX.drewN nq
    replace hbel := below_drewN hbel nq
    generalize World.drewN _ nq = w1 at *
    have hw1 := hw.below hbel
    have x0 := hX.c0
    have x1 := hX.c1
    have x2 := hX.c2
    go_wp2_with (first
      | (go_at_call 19; refine (hF _ hw1).mono ?_; rintro e w2 ⟨rfl, hb2⟩; rw [HF.out]; have hA2 := hA.below hb2; have hX2 := hX.below hb2; have y0 := hX2.c0; have y1 := hX2.c1; have y2 := hX2.c2)
      | (go_at_call 20; refine (hN _ hA2).mono ?_; rintro e w3 ⟨rfl, hb3⟩; rw [HC.out]; have hA3 := hA2.below hb3; have z0 := (hX2.below hb3).c0; have fz := hA3.frz (r.length * 3 + 1); have lc := hA3.c1; have lr := hA3.rb_lt))
    go_ret
    exact ⟨rfl, ⟨rb, cap, _, rfl, hA3.set_last _⟩, (((Tch.of_below hbel).trans (Tch.of_below hb2)).trans (Tch.of_below hb3)).trans (hA3.touch _ _)⟩

set_option maxHeartbeats 4000000 in
theorem step_key (h : CRep w base g rb cap (q :: r)) (hl : r.length ≤ 6) (hw : NumW x.k w) (hs : x.t.size ≤ 140737488355328) (hf : formedB x = true) (hn : contB q.p.kind q.p.last x.k (emptyT x.t) = true) (hk : x.k = 8 ∨ x.k = 11) :
    Calls Tryz.prog 11 #[.pointer (some ⟨g, 0, none⟩), evV x] w (SPost w base g (ptsOf (q :: r)) x) := by
  have hne : endsK x.k = false := by unfold endsK; rw [decide_eq_false_iff_not]; omega
  have hno : opensK x.k = false := by unfold opensK; rw [decide_eq_false_iff_not]; omega
  have hE : stepE (ptsOf (q :: r)) x = addE q.p.keys x.t.data.toList := by rw [ptsOf_cons]; simp only [stepE]; rw [if_neg (by rw [hf, hn]; decide), if_neg (by rw [hne]; decide), if_neg (by rw [hno]; decide), if_pos hk]; rfl
  have hF := fun w' h => formedV (x := x) (w' := w') h hs
  have hN := fun w' h => continuesV (base := base) (g := g) (rb := rb) (cap := cap) (q := q) (r := r) (x := x) (w' := w') h
  have hD := fun w' (h : CRep w' base g rb cap (q :: r)) => add_any w' base g rb cap q r x.t h hs
  have HF := Lib.hid hf
  have HC := Lib.hid hn
  clear hf hn
  have hA := h.alloc (.cells #[.int .i64 x.k, .string x.t, .string x.v] 38)
  have hX := EvAt.new w x
  have hbel := (Below.refl w.heap.size w).alloc (Nat.le_refl _) (.cells #[.int .i64 x.k, .string x.t, .string x.v] 38)
  by_cases hz : addE q.p.keys x.t.data.toList = 0
  · have hS : stepS (ptsOf (q :: r)) x = ptsOf (⟨{ q.p with last := x.k, keys := addK q.p.keys x.t.data.toList }, q.m⟩ :: r) := by
      unfold stepS; rw [hE, if_pos hz, ptsOf_cons]; simp only [goS]; rw [if_neg (by rw [hne]; decide), if_neg (by rw [hno]; decide), if_pos hk]; unfold addK; rw [if_pos hz]; rfl
    unfold SPost
    rw [hE, hS]
    clear hE hS hne hno
    unfold APost at hD
    rw [hz] at hD ⊢
    have hz' : (0 : Int) ≠ 1 := by decide
    generalize addK q.p.keys x.t.data.toList = ks at *
    unfold evV
    obtain ⟨k, t, v⟩ := x
    simp only at *
    rcases hk with rfl | rfl
    all_goals
      have hc := hA.c
      have hltA := hA.lt
      have hlrA := hA.rb_lt
      go_enter Tryz.func11, Tryz.ntmps11
      go_wp2_with fail
      go_quiet (fail)
      rename_i nq
      replace hA := hA.drewN nq
      replace hX := hX.drewN nq
      replace hbel := below_drewN hbel nq
      generalize World.drewN _ nq = w1 at *
      have hw1 := hw.below hbel
      have x0 := hX.c0
      have x1 := hX.c1
      have x2 := hX.c2
      go_wp2_with (first
        | (go_at_call 19; refine (hF _ hw1).mono ?_; rintro e w2 ⟨rfl, hb2⟩; rw [HF.out]; have hA2 := hA.below hb2; have hX2 := hX.below hb2; have y0 := hX2.c0; have y1 := hX2.c1; have y2 := hX2.c2)
        | (go_at_call 20; refine (hN _ hA2).mono ?_; rintro e w3 ⟨rfl, hb3⟩; rw [HC.out]; have hA3 := hA2.below hb3; have hX3 := hX2.below hb3; have z0 := hX3.c0; have z1 := hX3.c1)
        | (go_at_call 23; refine (hD _ hA3).mono ?_; rintro e w4 ⟨rfl, ⟨m', hA4⟩, hT4⟩; have u0 := (hX3.of_c hT4).c0; have fz := hA4.frz (r.length * 3 + 1); have lc := hA4.c1; have lr := hA4.rb_lt))
      go_ret
      exact ⟨rfl, ⟨rb, cap, ⟨_, m'⟩ :: r, rfl, hA4.set_last _⟩, ((((Tch.of_below hbel).trans (Tch.of_below hb2)).trans (Tch.of_below hb3)).trans hT4).trans (hA4.touch _ _)⟩
  · have hS : stepS (ptsOf (q :: r)) x = ptsOf (⟨{ q.p with keys := addK q.p.keys x.t.data.toList }, q.m⟩ :: r) := by
      unfold stepS; rw [hE, if_neg hz]; unfold addK; rw [if_neg hz]
    unfold SPost
    rw [hE, hS]
    clear hE hS hne hno
    unfold APost at hD
    generalize addK q.p.keys x.t.data.toList = ks at *
    generalize addE q.p.keys x.t.data.toList = E at *
    have e0 := ne_beq hz
    have e1 := ne_bne hz
    unfold evV
    obtain ⟨k, t, v⟩ := x
    simp only at *
    rcases hk with rfl | rfl
    all_goals
      have hc := hA.c
      have hltA := hA.lt
      have hlrA := hA.rb_lt
      go_enter Tryz.func11, Tryz.ntmps11
      go_wp2_with fail
      go_quiet (fail)
      rename_i nq
      replace hA := hA.drewN nq
      replace hX := hX.drewN nq
      replace hbel := below_drewN hbel nq
      generalize World.drewN _ nq = w1 at *
      have hw1 := hw.below hbel
      have x0 := hX.c0
      have x1 := hX.c1
      have x2 := hX.c2
      go_wp2_with (first
        | (go_at_call 19; refine (hF _ hw1).mono ?_; rintro e w2 ⟨rfl, hb2⟩; rw [HF.out]; have hA2 := hA.below hb2; have hX2 := hX.below hb2; have y0 := hX2.c0; have y1 := hX2.c1; have y2 := hX2.c2)
        | (go_at_call 20; refine (hN _ hA2).mono ?_; rintro e w3 ⟨rfl, hb3⟩; rw [HC.out]; have hA3 := hA2.below hb3; have hX3 := hX2.below hb3; have z0 := hX3.c0; have z1 := hX3.c1)
        | (go_at_call 23; refine (hD _ hA3).mono ?_; rintro e w4 ⟨rfl, ⟨m', hA4⟩, hT4⟩))
      go_ret
      exact ⟨rfl, ⟨rb, cap, ⟨_, m'⟩ :: r, rfl, hA4⟩, (((Tch.of_below hbel).trans (Tch.of_below hb2)).trans (Tch.of_below hb3)).trans hT4⟩
end
end Go.Proofs.YtjepnddndpmnnaaGreatDoor
namespace Go.Proofs.YtjepnddndpmnnaaGreatDoor
open Go.RowKit Go.Maps
set_option maxRecDepth 100000
set_option linter.unusedSectionVars false
variable [Tab] [Fo]

theorem Tryz.infoPart : (Tryz.prog.info? 72).map (fun i => (i.zero, i.size, i.bytes)) = some (some (.agg #[.int .i64 0, .int .i64 0, .map none]), 3, 24) := by kernel_rfl
theorem cellsOf3 (w : World) (a b c : Value) (t : TypeId) : ∀ j u, [a, b, c][j]? = some u → (w.alloc (.cells #[a, b, c] t)).cell? ((⟨w.heap.size, 0, none⟩ : Addr).add j) = some u := by
  intro j u hj
  rw [addr_add0]
  exact (Blk.new w t #[a, b, c]).cell j |>.trans (by simpa using hj)
theorem rowN_shape {w : World} {base : Nat} {e : TypeId} {size n : Nat} {v : Value} {xs : List Value} (h : w.ownsRow base e size v n xs) (hn : 0 < n) : ∃ r c, v = .slice (some ⟨r, 0, none⟩) n c := by
  rcases h.2 with ⟨rfl, rfl⟩ | ⟨g, cap, cur, rfl, _⟩
  · omega
  · exact ⟨_, _, rfl⟩

theorem CRep.far_row {w w2 : World} {base g rb cap : Nat} {qs : List PQ} {n : Nat} (h : CRep w base g rb cap qs) (hg : w.grownBy w2 (Value.slice (some ⟨rb, 0, none⟩) n cap).ownBlock) : Blk w2 g 75 #[.slice (some ⟨rb, 0, none⟩) qs.length cap] :=
  h.blk.grown hg (by intro e; injection e with e; exact h.rb_ne e)
theorem CRep.pushed {w w2 : World} {base g rb cap rb2 c2 : Nat} {qs : List PQ} {k : Int} (h : CRep w base g rb cap qs) (hg : w.grownBy w2 (Value.slice (some ⟨rb, 0, none⟩) qs.length cap).ownBlock) (hnb : NB w (Value.slice (some ⟨rb, 0, none⟩) qs.length cap) (Value.slice (some ⟨rb2, 0, none⟩) (qs.length + 1) c2))
    (hr : w2.ownsRow base 72 3 (.slice (some ⟨rb2, 0, none⟩) (qs.length + 1) c2) (qs.length + 1) (qcs qs ++ [.int .i64 k, .int .i64 0, .map none])) :
    CRep (w2.setCell ⟨g, 0, none⟩ (.slice (some ⟨rb2, 0, none⟩) (qs.length + 1) c2)) base g rb2 c2 (⟨⟨k, 0, []⟩, none⟩ :: qs) ∧ Tch base cObj w (w2.setCell ⟨g, 0, none⟩ (.slice (some ⟨rb2, 0, none⟩) (qs.length + 1) c2)) := by
  have hk2 := h.far_row hg
  obtain ⟨cur, hcur⟩ := h.row_obj
  have T1 : Tch base cObj w w2 := Tch.of_grown hg h.rb_ge h.nf.2.1 hcur (.inr rfl)
  have hnr : NF (Value.slice (some ⟨rb, 0, none⟩) qs.length cap) := fun g' e => by injection e with e; subst e; exact h.nf.2.1
  refine ⟨⟨h.hg, hk2.set_ 0 _, ?_, ?_, h.nf.1, hnr.nb hnb h.nf.2.2 rb2 rfl, Nat.le_trans h.nf.2.2 (Nat.le_trans hg.size (by simp [World.setCell]))⟩, T1.set hk2 h.hg h.nf.1 (.inl rfl) 0 _⟩
  · refine World.ownsRow.kept (row := some g) hr (only_setCell (p := ⟨g, 0, none⟩) (World.grownBy.refl _ (some g)) (.inl rfl) _) (.inr ?_)
    intro e
    obtain ⟨cur2, hcur2⟩ := Go.Proofs.YtjepnddndpmnnaaGreatDoor.row_obj hr e
    unfold Blk at hk2
    rw [hk2] at hcur2
    cases hcur2
  · refine ⟨fun b hb => (by cases hb), rfl, ?_⟩
    refine h.maps.keep fun _ _ b _ hb => ?_
    have hne := h.map_ne hb
    refine (Below.heap_setCell w2 ⟨g, 0, none⟩ _ b hne.1).trans (hg.block b ?_ ?_)
    · obtain ⟨es, c, hb⟩ := hb
      exact (Array.getElem?_eq_some_iff.1 hb).1
    · intro e
      injection e with e
      exact hne.2 e

theorem CRep.set_lastX {w : World} {base g rb cap b : Nat} {q : PQ} {r : List PQ} {x : Ev} (h : CRep w base g rb cap (q :: r)) (hX : EvAt w b x) :
    CRep (w.setCell ⟨rb, r.length * 3 + 1, none⟩ (.int .i64 x.k)) base g rb cap (⟨{ q.p with last := x.k }, q.m⟩ :: r) ∧ Tch base cObj w (w.setCell ⟨rb, r.length * 3 + 1, none⟩ (.int .i64 x.k)) ∧
    EvAt (w.setCell ⟨rb, r.length * 3 + 1, none⟩ (.int .i64 x.k)) b x :=
  ⟨h.set_last _, h.touch _ _, hX.of_c (h.touch _ _)⟩
section
variable (w : World) (base g rb cap : Nat) (q : PQ) (r : List PQ) (x : Ev)
set_option maxHeartbeats 4000000 in
theorem step_open (h : CRep w base g rb cap (q :: r)) (hl : r.length ≤ 6) (hw : NumW x.k w) (hs : x.t.size ≤ 140737488355328) (hf : formedB x = true) (hn : contB q.p.kind q.p.last x.k (emptyT x.t) = true) (hk : opensK x.k = true) (h6 : ¬ 6 ≤ r.length) :
    Calls Tryz.prog 11 #[.pointer (some ⟨g, 0, none⟩), evV x] w (SPost w base g (ptsOf (q :: r)) x) := by
  have hne : endsK x.k = false := opens_not_ends' hk
  have hE : stepE (ptsOf (q :: r)) x = 0 := by rw [ptsOf_cons]; simp only [stepE]; rw [if_neg (by rw [hf, hn]; decide), if_neg (by rw [hne]; decide), if_pos hk, if_neg (by rw [ptsOf_len]; exact h6)]
  have hS : stepS (ptsOf (q :: r)) x = ptsOf (⟨⟨x.k, 0, []⟩, none⟩ :: ⟨{ q.p with last := x.k }, q.m⟩ :: r) := by
    unfold stepS; rw [hE, if_pos rfl, ptsOf_cons]; simp only [goS]; rw [if_neg (by rw [hne]; decide), if_pos hk]; rfl
  unfold SPost
  rw [hE, hS]
  clear hE hS hne
  have hF := fun w' h => formedV (x := x) (w' := w') h hs
  have hN := fun w' h => continuesV (base := base) (g := g) (rb := rb) (cap := cap) (q := q) (r := r) (x := x) (w' := w') h
  have hD : ∀ w', CRep w' base g rb cap (q :: r) → Calls Tryz.prog 22 #[.pointer (some ⟨g, 0, none⟩)] w' fun e w'' => e = .returned (.int .i64 r.length) ∧ w'' = w' := by
    intro w' hw'
    refine (depth_any w' base g _ ⟨rb, cap, q :: r, rfl, hw'⟩ (by rw [ptsOf_len]; simp; omega)).mono ?_
    rintro e w'' ⟨rfl, rfl⟩
    rw [ptsOf_len, List.length_cons]
    exact ⟨by congr 2; omega, rfl⟩
  unfold evV
  have HF := Lib.hid hf
  have HC := Lib.hid hn
  have h6i : (r.length : Int) < 6 := by omega
  clear hf hn h6
  unfold opensK at hk
  rw [decide_eq_true_iff] at hk
  have hA := h.alloc (.cells #[.int .i64 x.k, .string x.t, .string x.v] 38)
  have hX := EvAt.new w x
  have hbel := (Below.refl w.heap.size w).alloc (Nat.le_refl _) (.cells #[.int .i64 x.k, .string x.t, .string x.v] 38)
  obtain ⟨k, t, v⟩ := x
  simp only at *
  rcases hk with rfl | rfl | rfl
  all_goals
    have hc := hA.c
    have hltA := hA.lt
    have hlrA := hA.rb_lt
    go_enter Tryz.func11, Tryz.ntmps11
    go_wp2_with fail
    go_quiet (fail)
    rename_i nq
    replace hA := hA.drewN nq
    replace hX := hX.drewN nq
    replace hbel := below_drewN hbel nq
    generalize World.drewN _ nq = w1 at *
    have hw1 := hw.below hbel
    have x0 := hX.c0
    have x1 := hX.c1
    have x2 := hX.c2
    go_wp2_with (first
      | (go_at_call 19; refine (hF _ hw1).mono ?_; rintro e w2 ⟨rfl, hb2⟩; rw [HF.out]; have hA2 := hA.below hb2; have hX2 := hX.below hb2; have y0 := hX2.c0; have y1 := hX2.c1; have y2 := hX2.c2)
      | (go_at_call 20; refine (hN _ hA2).mono ?_; rintro e w3 ⟨rfl, hb3⟩; rw [HC.out]; have hA3 := hA2.below hb3; have hX3 := hX2.below hb3; have z0 := hX3.c0; have fz := hA3.frz (r.length * 3 + 1); have lc := hA3.c1; have lr := hA3.rb_lt)
      | (go_at_call 22; refine (hD _ hA3).mono ?_; rintro e w4 ⟨rfl, rfl⟩))
    obtain ⟨hA5, hT5, hX5⟩ := hA3.set_lastX hX3
    simp only at hA5 hT5 hX5
    generalize w4.setCell _ _ = w5 at *
    have d0 := hX5.c0
    have dc := hA5.c
    have gl := hA5.lt
    have el := Blk.lt hX5
    have hbs : base ≤ w5.heap.size := by have := hA5.hg; have := hA5.lt; omega
    have h63 : (r.length + 1) + 1 ≤ maxLen := by simp only [maxLen]; omega
    have h24 : ((r.length + 1) + 1) * 24 ≤ 140737488355328 := by omega
    have hrow := hA5.drew.row
    go_region_law ((refine step_appG (by rfl) (.tmp 51) (.tmp 55) 73 (by rfl) base 72 _ 3 24 Tryz.underlying73 Tryz.infoPart (by rfl) (by decide) (.slice (some ⟨rb, 0, none⟩) (r.length + 1) cap) (r.length + 1) _ [.int .i64 _, .int .i64 0, .map none] (by rfl) (by exact World.ownsRow.alloc hrow _) (by simp [Value.oneCell']) ⟨w5.heap.size, 0, none⟩ 1 1 (by rfl) (by rfl) (by exact cellsOf3 w5.drew _ _ _ _) h63 h24 (by simp; omega) ?_; intro v2 w6 hown hg6 hnb6; obtain ⟨rb2, c2, rfl⟩ := rowN_shape hown (Nat.succ_pos _); have hk6 := (hA5.drew.alloc (.cells #[.int .i64 _, .int .i64 0, .map none] 72)).far_row hg6; have ec0 := hk6.cell 0; have ef0 := hk6.frozen 0; have el0 := hk6.lt))
    all_goals
      go_wp2
      go_ret
      obtain ⟨r1, r2⟩ := (hA5.drew.alloc (.cells #[.int .i64 _, .int .i64 0, .map none] 72)).pushed hg6 hnb6 hown
      exact ⟨rfl, ⟨rb2, c2, _, rfl, r1⟩, ((((((Tch.of_below hbel).trans (Tch.of_below hb2)).trans (Tch.of_below hb3)).trans hT5).drew).alloc _).trans r2⟩

theorem step_rep (h : CRep w base g rb cap (q :: r)) (hl : r.length ≤ 6) (hw : NumW x.k w) (hs : x.t.size ≤ 140737488355328) :
    Calls Tryz.prog 11 #[.pointer (some ⟨g, 0, none⟩), evV x] w (SPost w base g (ptsOf (q :: r)) x) := by
  cases hf : formedB x with
  | false => exact step_bad w base g rb cap q r x h hl hw hs (.inl hf)
  | true =>
    cases hn : contB q.p.kind q.p.last x.k (emptyT x.t) with
    | false => exact step_bad w base g rb cap q r x h hl hw hs (.inr hn)
    | true =>
      by_cases h1 : endsK x.k = true
      · exact step_close w base g rb cap q r x h hl hw hs hf hn h1
      by_cases h2 : opensK x.k = true
      · by_cases h6 : 6 ≤ r.length
        · exact step_deep w base g rb cap q r x h hl hw hs hf hn h2 h6
        · exact step_open w base g rb cap q r x h hl hw hs hf hn h2 h6
      by_cases h3 : x.k = 8 ∨ x.k = 11
      · exact step_key w base g rb cap q r x h hl hw hs hf hn h3
      · refine step_plain w base g rb cap q r x h hl hw hs hf hn ?_
        unfold endsK at h1
        unfold opensK at h2
        rw [decide_eq_true_iff] at h1 h2
        unfold formedB bareK at hf
        repeat' split at hf
        all_goals first
          | omega
          | (exfalso; exact absurd hf (by decide))
          | (rename_i hb; rw [decide_eq_true_iff] at hb; omega)
end
theorem estep_any (w : World) (base g : Nat) (st : List Pt) (x : Ev) (h : CAt w base g st) (hg : Good st) (hw : NumW x.k w) (hs : x.t.size ≤ 140737488355328) :
    Calls Tryz.prog 11 #[.pointer (some ⟨g, 0, none⟩), evV x] w (SPost w base g st x) := by
  obtain ⟨rb, cap, qs, rfl, h⟩ := h
  cases qs with
  | nil => exact hg.1.elim
  | cons q r => exact step_rep w base g rb cap q r x h (by have := hg.2; rw [ptsOf_cons, List.length_cons, ptsOf_len] at this; omega) hw hs
end Go.Proofs.YtjepnddndpmnnaaGreatDoor
namespace Go.Proofs.YtjepnddndpmnnaaGreatDoor
open Go.RowKit Go.Maps
set_option maxRecDepth 100000
set_option linter.unusedSectionVars false
variable [Tab] [Fo]

def okE (x : Ev) : Prop := -9223372036854775808 ≤ x.k ∧ x.k ≤ 9223372036854775807 ∧ x.t.size ≤ 140737488355328 ∧ x.v.size ≤ 140737488355328
/-- A slice of events that can be read. -/
def ERead (w : World) (v : Value) (xs : List Ev) : Prop :=
  ∃ A c, v = .slice A xs.length c ∧ xs.length ≤ c ∧ c ≤ maxLen ∧ (0 < xs.length → ∃ b o : Nat, A = some ⟨b, o, none⟩ ∧ ∀ j (h : j < xs.length),
    w.cell? ⟨b, o + j * 3, none⟩ = some (.int .i64 (xs[j]).k) ∧ w.cell? ⟨b, o + j * 3 + 1, none⟩ = some (.string (xs[j]).t) ∧ w.cell? ⟨b, o + j * 3 + 2, none⟩ = some (.string (xs[j]).v))
theorem ERead.below {w w' : World} {v : Value} {xs : List Ev} (h : ERead w v xs) (hb : Below w.heap.size w w') : ERead w' v xs := by
  obtain ⟨A, c, rfl, h1, h2, h3⟩ := h
  refine ⟨A, c, rfl, h1, h2, fun hp => ?_⟩
  obtain ⟨b, o, rfl, hc⟩ := h3 hp
  refine ⟨b, o, rfl, fun j hj => ?_⟩
  obtain ⟨c0, c1, c2⟩ := hc j hj
  exact ⟨(hb.cell (cell_lt c0)).trans c0, (hb.cell (cell_lt c1)).trans c1, (hb.cell (cell_lt c2)).trans c2⟩
theorem ERead.take {w : World} {A : Option Addr} {n c : Nat} {xs : List Ev} (h : ERead w (.slice A n c) xs) {k : Nat} (hk : k ≤ xs.length) : ERead w (.slice A k c) (xs.take k) := by
  obtain ⟨A', c', hv, h1, h2, h3⟩ := h
  injection hv with e1 e2 e3
  subst e1 e2 e3
  have hl : (xs.take k).length = k := by rw [List.length_take, Nat.min_eq_left hk]
  refine ⟨A, c, by rw [hl], by omega, h2, fun hp => ?_⟩
  obtain ⟨b, o, rfl, hc⟩ := h3 (by omega)
  refine ⟨b, o, rfl, fun j hj => ?_⟩
  rw [List.getElem_take]
  exact hc j (by omega)

def NumWs (xs : List Ev) (w : World) : Prop := (∃ x ∈ xs, x.k = 3) → Nm.StdW w
theorem NumWs.of {xs : List Ev} {w : World} (h : Nm.StdW w) : NumWs xs w := fun _ => h
theorem NumWs.below {xs : List Ev} {w w' : World} (h : NumWs xs w) (hb : Below w.heap.size w w') : NumWs xs w' := fun e => (h e).below hb
theorem NumWs.at {xs : List Ev} {w : World} (h : NumWs xs w) {x : Ev} (hx : x ∈ xs) : NumW x.k w := fun e => h ⟨x, hx, e⟩
/-- What Whole tells. -/
def WEnd (p : Nat × Int) : Ending := .returned (.tuple #[.int .i64 p.1, .int .i64 p.2])

set_option maxHeartbeats 4000000 in
theorem ewhole_any (w : World) (v : Value) (xs : List Ev) (hv : ERead w v xs) (hx : ∀ x ∈ xs, okE x) (hw : NumWs xs w) (hn : xs.length ≤ 4611686018427387904) (hfl : Fo.lim ≤ w.heap.size) :
    Calls Tryz.prog 6 #[v] w fun e w' => e = WEnd (wholeGo 0 [topP] xs) ∧ Below w.heap.size w w' := by
  obtain ⟨A, c, rfl, _, _, hr⟩ := hv
  go_enter Tryz.func6, Tryz.ntmps6
  go_wp2_with (first
    | (go_at_call 10; refine (cnew_any _ w.heap.size (Nat.le_refl _) hfl).mono ?_; rintro e w1 ⟨g, rfl, hg, hC1, hb1⟩))
  go_loopw [11] (fun i wr => ∃ (k : Nat) (st : List Pt), k ≤ xs.length ∧ i = .int .i64 k ∧ CAt wr w.heap.size g st ∧ Hid (Good st) ∧ Hid (Below w.heap.size w wr) ∧ Hid (wholeGo 0 [topP] xs = wholeGo k st (xs.drop k))) (fun i _ => xs.length - (intOf i).toNat)
  case atStart => exact ⟨0, [topP], Nat.zero_le _, rfl, hC1, Lib.hid good_start, Lib.hid hb1, Lib.hid rfl⟩
  case round =>
    obtain ⟨k, st, hk, rfl, hC, HG, HB, HW⟩ := hrel
    have hwr := hw.below HB.out
    by_cases hlt : k < xs.length
    · obtain ⟨bb, oo, rfl, hc⟩ := hr (by omega)
      obtain ⟨h1, h2, h3⟩ := hc k hlt
      have hok := hx _ (List.getElem_mem hlt)
      have hwx := hwr.at (List.getElem_mem hlt)
      have g1 := (HB.out.cell (cell_lt h1)).trans h1
      have g2 := (HB.out.cell (cell_lt h2)).trans h2
      have g3 := (HB.out.cell (cell_lt h3)).trans h3
      have hd := HW.out
      rw [List.drop_eq_getElem_cons hlt] at hd
      simp only [wholeGo] at hd
      clear hc hr h1 h2 h3
      generalize xs[k] = x at *
      obtain ⟨_, _, hs, _⟩ := hok
      have hbA : Below wr.heap.size wr (wr.alloc (.cells #[.int .i64 x.k, .string x.t, .string x.v] 38)) := (Below.refl _ _).alloc (Nat.le_refl _) _
      have hCA := hC.below hbA
      have hwA := hwx.below hbA
      have HB2 := Lib.hid (HB.out.trans (hbA.mono HB.out.size))
      have hCs : ∀ w', CAt w' w.heap.size g st → NumW x.k w' → Calls Tryz.prog 11 #[.pointer (some ⟨g, 0, none⟩), .agg #[.int .i64 x.k, .string x.t, .string x.v]] w' (SPost w' w.heap.size g st x) := fun w' h1 h2 => estep_any w' w.heap.size g st x h1 HG.out h2 hs
      unfold SPost at hCs
      have HG2 := Lib.hid (good_step HG.out x)
      by_cases hz : stepE st x = 0
      · rw [if_pos hz] at hd
        have HD := Lib.hid hd
        rw [hz] at hCs
        clear hd hz
        go_wp2_with (first
          | (go_at_call 11; refine (hCs _ hCA hwA).mono ?_; rintro e w3 ⟨rfl, hC3, hT3⟩))
        go_roundw
        case rel => exact ⟨k + 1, _, hlt, by go_num, hC3, HG2, Lib.hid (HB2.out.trans (hT3.below HB2.out.size)), HD⟩
        case measure => first | (simp [intOf]; done) | (simp [intOf]; omega)
      · rw [if_neg hz] at hd
        have HD := Lib.hid hd
        have e0 := ne_beq hz
        have b0 := ne_bne hz
        generalize stepE st x = E at *
        clear hd hz
        go_wp2_with (first
          | (go_at_call 11; refine (hCs _ hCA hwA).mono ?_; rintro e w3 ⟨rfl, hC3, hT3⟩))
        go_ret2
        exact ⟨by rw [HD.out]; rfl, HB2.out.trans (hT3.below HB2.out.size)⟩
    · have hke : k = xs.length := by omega
      have hd := HW.out
      rw [List.drop_of_length_le (by omega)] at hd
      simp only [wholeGo] at hd
      have HD := Lib.hid hd
      have hne : st ≠ [] := by obtain ⟨p, r, rfl⟩ := HG.out.ne; simp
      have hD := done_any wr w.heap.size g st hC HG.out.2 hne
      subst hke
      cases hdb : doneB st with
      | true =>
        rw [hdb] at hD
        have HE := Lib.hid hdb
        clear hd hdb
        go_wp2_with (first
          | (go_at_call 12; refine hD.mono ?_; rintro e w3 ⟨rfl, rfl⟩))
        go_ret2
        exact ⟨by rw [HD.out, HE.out]; rfl, HB.out⟩
      | false =>
        rw [hdb] at hD
        have HE := Lib.hid hdb
        clear hd hdb
        go_wp2_with (first
          | (go_at_call 12; refine hD.mono ?_; rintro e w3 ⟨rfl, rfl⟩))
        go_ret2
        exact ⟨by rw [HD.out, HE.out]; rfl, HB.out⟩
end Go.Proofs.YtjepnddndpmnnaaGreatDoor
namespace Go.Proofs.YtjepnddndpmnnaaGreatDoor
open Go.RowKit Go.ChangeShapes Go.WideShapes Go.Deep
set_option maxRecDepth 100000

theorem own : ownKnob Tryz.prog.godebug = none := by kernel_rfl
theorem laidOut : laidOutB Tryz.prog = true := by kernel_rfl
def laidL : List (String × DataW Unit) := Rows.angleWholeRow.laid
theorem laidL_eq : laidL = [("math/bits.deBruijn32tab", Rows.laid_math_bits_deBruijn32tab), ("math/bits.deBruijn64tab", Rows.laid_math_bits_deBruijn64tab), ("internal/strconv.uint64pow10", Rows.laid_internal_strconv_uint64pow10), ("unicode/utf8.acceptRanges", Rows.laid_unicode_utf8_acceptRanges), ("strconv.ErrRange", Rows.laid_strconv_ErrRange), ("strconv.ErrSyntax", Rows.laid_strconv_ErrSyntax), ("unicode/utf8.first", Rows.laid_unicode_utf8_first)] := rfl

theorem laid_met (os : Os) (args : Array Value) : laidMetH Tryz.prog laidL ((World.laidAll Tryz.prog os laidL).forCall (fun _ _ => 0) ⟨#[], args, []⟩).memory := by
  rw [MakeChecks.laidMetH_plain _ _ _ (by kernel_rfl)]
  exact laidMet_laidAll _ (by kernel_rfl) (by kernel_rfl)
theorem shapedW (os : Os) (args : Array Value) : ((World.laidAll Tryz.prog os laidL).forCall (fun _ _ => 0) ⟨#[], args, []⟩).Shaped Tryz.prog :=
  World.shaped_of_ZipB (by kernel_rfl) (by kernel_rfl)

theorem pow_data : (Rows.laid_internal_strconv_uint64pow10 : DataW Unit) = Lib.tabData .u64 Lib.pow10Tab := by kernel_rfl
theorem tPow : (Tryz.prog.globals[5]?).map (·.type) = some 176 := by kernel_rfl
theorem tRange : (Tryz.prog.globals[2]?).map (·.type) = some 141 := by kernel_rfl
theorem star : "*" ++ "errors.errorString" = "*errors.errorString" := by decide
theorem row_err (u : TypeId) (h : Tryz.prog.typeName? 3 u = some "*errors.errorString") : u = 180 :=
  typeName_ptr_named (nm := "errors.errorString") (by rw [star]; kernel_rfl) (by kernel_rfl) (by decide) u (by rw [star]; exact h)
/-- The table that the program's text lays. -/
@[reducible] def tab0 : Tab := ⟨Lib.pow10Tab, by unfold okTab; decide +kernel⟩
theorem std_of {W : World} (hL : laidMetH Tryz.prog laidL W) (hsh : W.ShapedOpen Tryz.prog) : @Nm.StdW tab0 W := by
  rw [MakeChecks.laidMetH_plain _ _ _ (by kernel_rfl), laidL_eq] at hL
  refine @Nm.StdW.mk tab0 W (Tryz.laysM145.s1_3 W hsh) ?_ ?_
  · have h5 := hL.tail.tail.tail.tail
    unfold Rows.laid_strconv_ErrRange at h5
    obtain ⟨a, s, h, _⟩ := laid_sentinel h5 Nm.gRange tRange Tryz.underlying141 row_err Tryz.underlying180 Tryz.underlying182 rfl rfl Tryz.underlying9 (by kernel_rfl) (by kernel_rfl)
    have hc := World.var?_cell Nm.gRange h 0
    exact ⟨_, by simpa using hc, .inr ⟨_, _, rfl⟩⟩
  · have h3 := hL.tail.tail
    rw [pow_data] at h3
    exact Lib.tabIs_of_head Nm.gPow tPow Tryz.underlying176 Tryz.underlying152 (by kernel_rfl) (by kernel_rfl) h3
end Go.Proofs.YtjepnddndpmnnaaGreatDoor
namespace Go.Proofs.YtjepnddndpmnnaaGreatDoor
set_option linter.unusedSectionVars false
variable [Tab]
def tellL (st : List Pt) (l : List Ev) (x : Ev) : List Ev := if stepE st x = 0 then l ++ [x] else l
theorem tellL_len (st : List Pt) (l : List Ev) (x : Ev) : (tellL st l x).length ≤ l.length + 1 := by
  unfold tellL; split <;> simp
/-- An event of a kind alone. -/
def bare (k : Int) : Ev := ⟨k, ⟨#[]⟩, ⟨#[]⟩⟩
theorem bare_size (k : Int) : (bare k).t.size ≤ 140737488355328 := Nat.zero_le _
end Go.Proofs.YtjepnddndpmnnaaGreatDoor
