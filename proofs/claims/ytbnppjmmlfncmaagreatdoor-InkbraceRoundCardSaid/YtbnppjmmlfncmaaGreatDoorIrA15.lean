/-
  events: Step of a Check: refused, or closing.
  events: Step of a Check: an End, a thing too deep, a key, anything else.
  events: Step of a Check: a value that opens nothing, a key.
  events: Step of a Check where a thing opens; Step, whole.
  events: slices of events that can be read; Whole.
  A list of events that a call has made: appended to, read; it and a Check keep clear of each other.
-/
import Derived.Test.YtbnppjmmlfncmaaGreatDoorIrA14
set_option maxRecDepth 100000
set_option linter.unusedSectionVars false
namespace Go.Proofs.YtbnppjmmlfncmaaGreatDoor
open Go.RowKit Go.Maps
variable [Fo]
def SPost (w : World) (base g : Nat) (st : List Pt) (x : Ev) (e : Ending) (w' : World) : Prop :=
 e = .returned (.int .i64 (stepE st x)) /\ CAt w' base g (stepS st x) /\ Tch base cObj w w'
section
variable (w : World) (base g rb cap : Nat) (q : PQ) (r : List PQ) (x : Ev)
theorem EvAt.set {w : World} {b : Nat} {x : Ev} (h : EvAt w b x) {p : Addr} (hp : b ≠ p.block) (u : Value) : EvAt (w.setCell p u) b x:=Blk.far h hp u
theorem EvAt.of_c {w w' : World} {base b : Nat} {x : Ev} (h : EvAt w b x) (ht : Tch base cObj w w') : EvAt w' b x:=Blk.tch h ht (.inr (by simp only [cObj]; decide))
theorem opens_not_ends' {k : Int} (h : opensK k = true) : endsK k = false:=by
 unfold opensK at h; unfold endsK; rw [decide_eq_true_iff] at h; rw [decide_eq_false_iff_not]; omega
theorem ptsOf_cons (q : PQ) (r : List PQ) : ptsOf (q :: r) = q.p :: ptsOf r:=rfl
theorem ptsOf_len (r : List PQ) : (ptsOf r).length = r.length:=by simp [ptsOf]
theorem formedV {w' : World} (hw : NumW x.k w') (hs : x.t.size <= 140737488355328) : Calls Tryz.prog 78 #[.agg #[.int .i64 x.k,.string x.t,.string x.v]] w' (FPost x w'):=formed_any x w' hw hs
theorem continuesV {w' : World} (h : CRep w' base g rb cap (q :: r)) : Calls Tryz.prog 79 #[.pointer (some ⟨rb,r.length * 3,none⟩),.agg #[.int .i64 x.k,.string x.t,.string x.v]] w' fun e w'' => e = .returned (.bool (contB q.p.kind q.p.last x.k (emptyT x.t))) /\ Below w'.heap.size w' w'' :=
 continues_any rb (r.length * 3) q.p.last x w' q.p.kind h.c0 h.c1
set_option maxHeartbeats 4000000 in
theorem step_bad (h : CRep w base g rb cap (q :: r)) (hl : r.length <= 6) (hw : NumW x.k w) (hs : x.t.size <= 140737488355328) (hb : formedB x = false \/ contB q.p.kind q.p.last x.k (emptyT x.t) = false) :
 Calls Tryz.prog 45 #[.pointer (some ⟨g,0,none⟩),evV x] w (SPost w base g (ptsOf (q :: r)) x):=by
 have hE : stepE (ptsOf (q :: r)) x = 19:=by rw [ptsOf_cons]; simp only [stepE]; rw [if_pos hb]
 have hS : stepS (ptsOf (q :: r)) x = ptsOf (q :: r):=by unfold stepS; rw [hE,if_neg (by decide)]
 unfold SPost
 rw [hE,hS]
 clear hE hS
 have hA:=h.alloc (.cells #[.int .i64 x.k,.string x.t,.string x.v] 67)
 have hX:=EvAt.new w x
 have hbel:=(Below.refl w.heap.size w).alloc (Nat.le_refl _) (.cells #[.int .i64 x.k,.string x.t,.string x.v] 67)
 have hc:=hA.c
 have hltA:=hA.lt
 have hlrA:=hA.rb_lt
 have hF:=fun w' h => formedV (x:=x) (w':=w') h hs
 have hN:=fun w' h => continuesV (base:=base) (g:=g) (rb:=rb) (cap:=cap) (q:=q) (r:=r) (x:=x) (w':=w') h
 unfold evV
 rcases hb with hf | hf
 ·have HF:=Lib.hid hf
  clear hf
  go_enter Tryz.func45,Tryz.ntmps45
  go_wp2_with fail
  go_quiet (fail)
  rename_i nq
  replace hA:=hA.drewN nq
  replace hX:=hX.drewN nq
  replace hbel:=below_drewN hbel nq
  generalize (w.alloc (.cells #[.int .i64 x.k,.string x.t,.string x.v] 67)).drewN nq = w1 at *
  have hw1:=hw.below hbel
  have x0:=hX.c0
  have x1:=hX.c1
  have x2:=hX.c2
  go_wp2_with (first
   | (go_at_call 78; refine (hF _ hw1).mono ?_; rintro e w2 ⟨rfl,hb2⟩; rw [HF.out]))
  go_ret
  exact ⟨rfl,⟨rb,cap,q :: r,rfl,hA.below hb2⟩,(Tch.of_below hbel).trans (Tch.of_below hb2)⟩
 ·cases hf2 : formedB x with
  | false =>
   have HF:=Lib.hid hf2
   clear hf2 hf
   go_enter Tryz.func45,Tryz.ntmps45
   go_wp2_with fail
   go_quiet (fail)
   rename_i nq
   replace hA:=hA.drewN nq
   replace hX:=hX.drewN nq
   replace hbel:=below_drewN hbel nq
   generalize (w.alloc (.cells #[.int .i64 x.k,.string x.t,.string x.v] 67)).drewN nq = w1 at *
   have hw1:=hw.below hbel
   have x0:=hX.c0
   have x1:=hX.c1
   have x2:=hX.c2
   go_wp2_with (first
    | (go_at_call 78; refine (hF _ hw1).mono ?_; rintro e w2 ⟨rfl,hb2⟩; rw [HF.out]))
   go_ret
   exact ⟨rfl,⟨rb,cap,q :: r,rfl,hA.below hb2⟩,(Tch.of_below hbel).trans (Tch.of_below hb2)⟩
  | true =>
   have HF:=Lib.hid hf2
   have HC:=Lib.hid hf
   clear hf2 hf
   go_enter Tryz.func45,Tryz.ntmps45
   go_wp2_with fail
   go_quiet (fail)
   rename_i nq
   replace hA:=hA.drewN nq
   replace hX:=hX.drewN nq
   replace hbel:=below_drewN hbel nq
   generalize (w.alloc (.cells #[.int .i64 x.k,.string x.t,.string x.v] 67)).drewN nq = w1 at *
   have hw1:=hw.below hbel
   have x0:=hX.c0
   have x1:=hX.c1
   have x2:=hX.c2
   go_wp2_with (first
    | (go_at_call 78; refine (hF _ hw1).mono ?_; rintro e w2 ⟨rfl,hb2⟩; rw [HF.out]; have hA2:=hA.below hb2; have hX2:=hX.below hb2; have y0:=hX2.c0; have y1:=hX2.c1; have y2:=hX2.c2)
    | (go_at_call 79; refine (hN _ hA2).mono ?_; rintro e w3 ⟨rfl,hb3⟩; rw [HC.out]))
   go_ret
   exact ⟨rfl,⟨rb,cap,q :: r,rfl,hA2.below hb3⟩,((Tch.of_below hbel).trans (Tch.of_below hb2)).trans (Tch.of_below hb3)⟩
end
end Go.Proofs.YtbnppjmmlfncmaaGreatDoor
namespace Go.Proofs.YtbnppjmmlfncmaaGreatDoor
open Go.RowKit Go.Maps
variable [Fo]
section
variable (w : World) (base g rb cap : Nat) (q : PQ) (r : List PQ) (x : Ev)
set_option maxHeartbeats 4000000 in
theorem step_close (h : CRep w base g rb cap (q :: r)) (hl : r.length <= 6) (hw : NumW x.k w) (hs : x.t.size <= 140737488355328) (hf : formedB x = true) (hn : contB q.p.kind q.p.last x.k (emptyT x.t) = true) (hk : endsK x.k = true) :
 Calls Tryz.prog 45 #[.pointer (some ⟨g,0,none⟩),evV x] w (SPost w base g (ptsOf (q :: r)) x):=by
 have hE : stepE (ptsOf (q :: r)) x = 0:=by rw [ptsOf_cons]; simp only [stepE]; rw [if_neg (by rw [hf,hn]; decide),if_pos hk]
 have hS : stepS (ptsOf (q :: r)) x = ptsOf r:=by unfold stepS; rw [hE,if_pos rfl,ptsOf_cons]; simp only [goS]; rw [if_pos hk]
 unfold SPost
 rw [hE,hS]
 clear hE hS
 have hF:=fun w' h => formedV (x:=x) (w':=w') h hs
 have hN:=fun w' h => continuesV (base:=base) (g:=g) (rb:=rb) (cap:=cap) (q:=q) (r:=r) (x:=x) (w':=w') h
 unfold evV
 have HF:=Lib.hid hf
 have HC:=Lib.hid hn
 clear hf hn
 unfold endsK at hk
 rw [decide_eq_true_iff] at hk
 have hA:=h.alloc (.cells #[.int .i64 x.k,.string x.t,.string x.v] 67)
 have hX:=EvAt.new w x
 have hbel:=(Below.refl w.heap.size w).alloc (Nat.le_refl _) (.cells #[.int .i64 x.k,.string x.t,.string x.v] 67)
 obtain ⟨k,t,v⟩:=x
 simp only at *
 rcases hk with rfl | rfl | rfl
 all_goals
  have hc:=hA.c
  have hltA:=hA.lt
  have hlrA:=hA.rb_lt
  go_enter Tryz.func45,Tryz.ntmps45
  go_wp2_with fail
  go_quiet (fail)
  rename_i nq
  replace hA:=hA.drewN nq
  replace hX:=hX.drewN nq
  replace hbel:=below_drewN hbel nq
  generalize World.drewN _ nq = w1 at *
  have hw1:=hw.below hbel
  have x0:=hX.c0
  have x1:=hX.c1
  have x2:=hX.c2
  go_wp2_with (first
   | (go_at_call 78; refine (hF _ hw1).mono ?_; rintro e w2 ⟨rfl,hb2⟩; rw [HF.out]; have hA2:=hA.below hb2; have hX2:=hX.below hb2; have y0:=hX2.c0; have y1:=hX2.c1; have y2:=hX2.c2)
   | (go_at_call 79; refine (hN _ hA2).mono ?_; rintro e w3 ⟨rfl,hb3⟩; rw [HC.out]; have hA3:=hA2.below hb3; have z0:=(hX2.below hb3).c0)
   | (go_at_call 80; refine (close_any _ base g rb cap q r hA3 hl).mono ?_; rintro e w4 ⟨rfl,hA4,hT4⟩))
  go_ret
  exact ⟨rfl,⟨rb,cap,r,rfl,hA4⟩,(((Tch.of_below hbel).trans (Tch.of_below hb2)).trans (Tch.of_below hb3)).trans hT4⟩
set_option maxHeartbeats 4000000 in
theorem step_deep (h : CRep w base g rb cap (q :: r)) (hl : r.length <= 6) (hw : NumW x.k w) (hs : x.t.size <= 140737488355328) (hf : formedB x = true) (hn : contB q.p.kind q.p.last x.k (emptyT x.t) = true) (hk : opensK x.k = true) (h6 : 6 <= r.length) :
 Calls Tryz.prog 45 #[.pointer (some ⟨g,0,none⟩),evV x] w (SPost w base g (ptsOf (q :: r)) x):=by
 have hne : endsK x.k = false:=opens_not_ends' hk
 have hE : stepE (ptsOf (q :: r)) x = 5:=by rw [ptsOf_cons]; simp only [stepE]; rw [if_neg (by rw [hf,hn]; decide),if_neg (by rw [hne]; decide),if_pos hk,if_pos (by rw [ptsOf_len]; exact h6)]
 have hS : stepS (ptsOf (q :: r)) x = ptsOf (q :: r):=by unfold stepS; rw [hE,if_neg (by decide)]
 have hr6 : r.length = 6:=by omega
 unfold SPost
 rw [hE,hS]
 clear hE hS hne
 have hF:=fun w' h => formedV (x:=x) (w':=w') h hs
 have hN:=fun w' h => continuesV (base:=base) (g:=g) (rb:=rb) (cap:=cap) (q:=q) (r:=r) (x:=x) (w':=w') h
 have hD : ∀ w',CRep w' base g rb cap (q :: r) -> Calls Tryz.prog 81 #[.pointer (some ⟨g,0,none⟩)] w' fun e w'' => e = .returned (.int .i64 6) /\ w'' = w':=by
  intro w' hw'
  refine (depth_any w' base g _ ⟨rb,cap,q :: r,rfl,hw'⟩ (by rw [ptsOf_len]; simp; omega)).mono ?_
  rintro e w'' ⟨rfl,rfl⟩
  rw [ptsOf_len,List.length_cons,hr6]
  exact ⟨rfl,rfl⟩
 clear hr6 h6
 unfold evV
 have HF:=Lib.hid hf
 have HC:=Lib.hid hn
 clear hf hn
 unfold opensK at hk
 rw [decide_eq_true_iff] at hk
 have hA:=h.alloc (.cells #[.int .i64 x.k,.string x.t,.string x.v] 67)
 have hX:=EvAt.new w x
 have hbel:=(Below.refl w.heap.size w).alloc (Nat.le_refl _) (.cells #[.int .i64 x.k,.string x.t,.string x.v] 67)
 obtain ⟨k,t,v⟩:=x
 simp only at *
 rcases hk with rfl | rfl | rfl
 all_goals
  have hc:=hA.c
  have hltA:=hA.lt
  have hlrA:=hA.rb_lt
  go_enter Tryz.func45,Tryz.ntmps45
  go_wp2_with fail
  go_quiet (fail)
  rename_i nq
  replace hA:=hA.drewN nq
  replace hX:=hX.drewN nq
  replace hbel:=below_drewN hbel nq
  generalize World.drewN _ nq = w1 at *
  have hw1:=hw.below hbel
  have x0:=hX.c0
  have x1:=hX.c1
  have x2:=hX.c2
  go_wp2_with (first
   | (go_at_call 78; refine (hF _ hw1).mono ?_; rintro e w2 ⟨rfl,hb2⟩; rw [HF.out]; have hA2:=hA.below hb2; have hX2:=hX.below hb2; have y0:=hX2.c0; have y1:=hX2.c1; have y2:=hX2.c2)
   | (go_at_call 79; refine (hN _ hA2).mono ?_; rintro e w3 ⟨rfl,hb3⟩; rw [HC.out]; have hA3:=hA2.below hb3; have z0:=(hX2.below hb3).c0)
   | (go_at_call 81; refine (hD _ hA3).mono ?_; rintro e w4 ⟨rfl,rfl⟩))
  go_ret
  exact ⟨rfl,⟨rb,cap,q :: r,rfl,hA3⟩,((Tch.of_below hbel).trans (Tch.of_below hb2)).trans (Tch.of_below hb3)⟩
end
end Go.Proofs.YtbnppjmmlfncmaaGreatDoor
namespace Go.Proofs.YtbnppjmmlfncmaaGreatDoor
open Go.RowKit Go.Maps
variable [Fo]
section
variable (w : World) (base g rb cap : Nat) (q : PQ) (r : List PQ) (x : Ev)
set_option maxHeartbeats 4000000 in
theorem step_plain (h : CRep w base g rb cap (q :: r)) (hl : r.length <= 6) (hw : NumW x.k w) (hs : x.t.size <= 140737488355328) (hf : formedB x = true) (hn : contB q.p.kind q.p.last x.k (emptyT x.t) = true) (hk : x.k = 1 \/ x.k = 2 \/ x.k = 3 \/ x.k = 4) :
 Calls Tryz.prog 45 #[.pointer (some ⟨g,0,none⟩),evV x] w (SPost w base g (ptsOf (q :: r)) x):=by
 have hne : endsK x.k = false:=by unfold endsK; rw [decide_eq_false_iff_not]; omega
 have hno : opensK x.k = false:=by unfold opensK; rw [decide_eq_false_iff_not]; omega
 have hE : stepE (ptsOf (q :: r)) x = 0:=by rw [ptsOf_cons]; simp only [stepE]; rw [if_neg (by rw [hf,hn]; decide),if_neg (by rw [hne]; decide),if_neg (by rw [hno]; decide),if_neg (by omega)]
 have hS : stepS (ptsOf (q :: r)) x = ptsOf (⟨{ q.p with last:=x.k },q.m⟩ :: r):=by
  unfold stepS; rw [hE,if_pos rfl,ptsOf_cons]; simp only [goS]; rw [if_neg (by rw [hne]; decide),if_neg (by rw [hno]; decide),if_neg (by omega)]; rfl
 unfold SPost
 rw [hE,hS]
 clear hE hS hne hno
 have hF:=fun w' h => formedV (x:=x) (w':=w') h hs
 have hN:=fun w' h => continuesV (base:=base) (g:=g) (rb:=rb) (cap:=cap) (q:=q) (r:=r) (x:=x) (w':=w') h
 unfold evV
 have HF:=Lib.hid hf
 have HC:=Lib.hid hn
 clear hf hn
 have hA:=h.alloc (.cells #[.int .i64 x.k,.string x.t,.string x.v] 67)
 have hX:=EvAt.new w x
 have hbel:=(Below.refl w.heap.size w).alloc (Nat.le_refl _) (.cells #[.int .i64 x.k,.string x.t,.string x.v] 67)
 obtain ⟨k,t,v⟩:=x
 simp only at *
 rcases hk with rfl | rfl | rfl | rfl
 all_goals
  have hc:=hA.c
  have hltA:=hA.lt
  have hlrA:=hA.rb_lt
  go_enter Tryz.func45,Tryz.ntmps45
  go_wp2_with fail
  go_quiet (fail)
  rename_i nq
  replace hA:=hA.drewN nq
  replace hX:=hX.drewN nq
  replace hbel:=below_drewN hbel nq
  generalize World.drewN _ nq = w1 at *
  have hw1:=hw.below hbel
  have x0:=hX.c0
  have x1:=hX.c1
  have x2:=hX.c2
  go_wp2_with (first
   | (go_at_call 78; refine (hF _ hw1).mono ?_; rintro e w2 ⟨rfl,hb2⟩; rw [HF.out]; have hA2:=hA.below hb2; have hX2:=hX.below hb2; have y0:=hX2.c0; have y1:=hX2.c1; have y2:=hX2.c2)
   | (go_at_call 79; refine (hN _ hA2).mono ?_; rintro e w3 ⟨rfl,hb3⟩; rw [HC.out]; have hA3:=hA2.below hb3; have z0:=(hX2.below hb3).c0; have fz:=hA3.frz (r.length * 3 + 1); have lc:=hA3.c1; have lr:=hA3.rb_lt))
  go_ret
  exact ⟨rfl,⟨rb,cap,_,rfl,hA3.set_last _⟩,(((Tch.of_below hbel).trans (Tch.of_below hb2)).trans (Tch.of_below hb3)).trans (hA3.touch _ _)⟩
set_option maxHeartbeats 4000000 in
theorem step_key (h : CRep w base g rb cap (q :: r)) (hl : r.length <= 6) (hw : NumW x.k w) (hs : x.t.size <= 140737488355328) (hf : formedB x = true) (hn : contB q.p.kind q.p.last x.k (emptyT x.t) = true) (hk : x.k = 8 \/ x.k = 11) :
 Calls Tryz.prog 45 #[.pointer (some ⟨g,0,none⟩),evV x] w (SPost w base g (ptsOf (q :: r)) x):=by
 have hne : endsK x.k = false:=by unfold endsK; rw [decide_eq_false_iff_not]; omega
 have hno : opensK x.k = false:=by unfold opensK; rw [decide_eq_false_iff_not]; omega
 have hE : stepE (ptsOf (q :: r)) x = addE q.p.keys x.t.data.toList:=by rw [ptsOf_cons]; simp only [stepE]; rw [if_neg (by rw [hf,hn]; decide),if_neg (by rw [hne]; decide),if_neg (by rw [hno]; decide),if_pos hk]; rfl
 have hF:=fun w' h => formedV (x:=x) (w':=w') h hs
 have hN:=fun w' h => continuesV (base:=base) (g:=g) (rb:=rb) (cap:=cap) (q:=q) (r:=r) (x:=x) (w':=w') h
 have hD:=fun w' (h : CRep w' base g rb cap (q :: r)) => add_any w' base g rb cap q r x.t h hs
 have HF:=Lib.hid hf
 have HC:=Lib.hid hn
 clear hf hn
 have hA:=h.alloc (.cells #[.int .i64 x.k,.string x.t,.string x.v] 67)
 have hX:=EvAt.new w x
 have hbel:=(Below.refl w.heap.size w).alloc (Nat.le_refl _) (.cells #[.int .i64 x.k,.string x.t,.string x.v] 67)
 by_cases hz : addE q.p.keys x.t.data.toList = 0
 ·have hS : stepS (ptsOf (q :: r)) x = ptsOf (⟨{ q.p with last:=x.k,keys:=addK q.p.keys x.t.data.toList },q.m⟩ :: r):=by
   unfold stepS; rw [hE,if_pos hz,ptsOf_cons]; simp only [goS]; rw [if_neg (by rw [hne]; decide),if_neg (by rw [hno]; decide),if_pos hk]; unfold addK; rw [if_pos hz]; rfl
  unfold SPost
  rw [hE,hS]
  clear hE hS hne hno
  unfold APost at hD
  rw [hz] at hD ⊢
  have hz' : (0 : Int) ≠ 1:=by decide
  generalize addK q.p.keys x.t.data.toList = ks at *
  unfold evV
  obtain ⟨k,t,v⟩:=x
  simp only at *
  rcases hk with rfl | rfl
  all_goals
   have hc:=hA.c
   have hltA:=hA.lt
   have hlrA:=hA.rb_lt
   go_enter Tryz.func45,Tryz.ntmps45
   go_wp2_with fail
   go_quiet (fail)
   rename_i nq
   replace hA:=hA.drewN nq
   replace hX:=hX.drewN nq
   replace hbel:=below_drewN hbel nq
   generalize World.drewN _ nq = w1 at *
   have hw1:=hw.below hbel
   have x0:=hX.c0
   have x1:=hX.c1
   have x2:=hX.c2
   go_wp2_with (first
    | (go_at_call 78; refine (hF _ hw1).mono ?_; rintro e w2 ⟨rfl,hb2⟩; rw [HF.out]; have hA2:=hA.below hb2; have hX2:=hX.below hb2; have y0:=hX2.c0; have y1:=hX2.c1; have y2:=hX2.c2)
    | (go_at_call 79; refine (hN _ hA2).mono ?_; rintro e w3 ⟨rfl,hb3⟩; rw [HC.out]; have hA3:=hA2.below hb3; have hX3:=hX2.below hb3; have z0:=hX3.c0; have z1:=hX3.c1)
    | (go_at_call 82; refine (hD _ hA3).mono ?_; rintro e w4 ⟨rfl,⟨m',hA4⟩,hT4⟩; have u0:=(hX3.of_c hT4).c0; have fz:=hA4.frz (r.length * 3 + 1); have lc:=hA4.c1; have lr:=hA4.rb_lt))
   go_ret
   exact ⟨rfl,⟨rb,cap,⟨_,m'⟩ :: r,rfl,hA4.set_last _⟩,((((Tch.of_below hbel).trans (Tch.of_below hb2)).trans (Tch.of_below hb3)).trans hT4).trans (hA4.touch _ _)⟩
 ·have hS : stepS (ptsOf (q :: r)) x = ptsOf (⟨{ q.p with keys:=addK q.p.keys x.t.data.toList },q.m⟩ :: r):=by
   unfold stepS; rw [hE,if_neg hz]; unfold addK; rw [if_neg hz]
  unfold SPost
  rw [hE,hS]
  clear hE hS hne hno
  unfold APost at hD
  generalize addK q.p.keys x.t.data.toList = ks at *
  generalize addE q.p.keys x.t.data.toList = E at *
  have e0:=ne_beq hz
  have e1:=ne_bne hz
  unfold evV
  obtain ⟨k,t,v⟩:=x
  simp only at *
  rcases hk with rfl | rfl
  all_goals
   have hc:=hA.c
   have hltA:=hA.lt
   have hlrA:=hA.rb_lt
   go_enter Tryz.func45,Tryz.ntmps45
   go_wp2_with fail
   go_quiet (fail)
   rename_i nq
   replace hA:=hA.drewN nq
   replace hX:=hX.drewN nq
   replace hbel:=below_drewN hbel nq
   generalize World.drewN _ nq = w1 at *
   have hw1:=hw.below hbel
   have x0:=hX.c0
   have x1:=hX.c1
   have x2:=hX.c2
   go_wp2_with (first
    | (go_at_call 78; refine (hF _ hw1).mono ?_; rintro e w2 ⟨rfl,hb2⟩; rw [HF.out]; have hA2:=hA.below hb2; have hX2:=hX.below hb2; have y0:=hX2.c0; have y1:=hX2.c1; have y2:=hX2.c2)
    | (go_at_call 79; refine (hN _ hA2).mono ?_; rintro e w3 ⟨rfl,hb3⟩; rw [HC.out]; have hA3:=hA2.below hb3; have hX3:=hX2.below hb3; have z0:=hX3.c0; have z1:=hX3.c1)
    | (go_at_call 82; refine (hD _ hA3).mono ?_; rintro e w4 ⟨rfl,⟨m',hA4⟩,hT4⟩))
   go_ret
   exact ⟨rfl,⟨rb,cap,⟨_,m'⟩ :: r,rfl,hA4⟩,(((Tch.of_below hbel).trans (Tch.of_below hb2)).trans (Tch.of_below hb3)).trans hT4⟩
end
end Go.Proofs.YtbnppjmmlfncmaaGreatDoor
namespace Go.Proofs.YtbnppjmmlfncmaaGreatDoor
open Go.RowKit Go.Maps
variable [Fo]
theorem Tryz.infoPart : (Tryz.prog.info? 124).map (fun i => (i.zero,i.size,i.bytes)) = some (some (.agg #[.int .i64 0,.int .i64 0,.map none]),3,24):=by kernel_rfl
theorem cellsOf3 (w : World) (a b c : Value) (t : TypeId) : ∀ j u,[a,b,c][j]? = some u -> (w.alloc (.cells #[a,b,c] t)).cell? ((⟨w.heap.size,0,none⟩ : Addr).add j) = some u:=by
 intro j u hj
 rw [addr_add0]
 exact (Blk.new w t #[a,b,c]).cell j |>.trans (by simpa using hj)
theorem rowN_shape {w : World} {base : Nat} {e : TypeId} {size n : Nat} {v : Value} {xs : List Value} (h : w.ownsRow base e size v n xs) (hn : 0 < n) : ∃ r c,v = .slice (some ⟨r,0,none⟩) n c:=by
 rcases h.2 with ⟨rfl,rfl⟩ | ⟨g,cap,cur,rfl,_⟩
 ·omega
 ·exact ⟨_,_,rfl⟩
theorem CRep.far_row {w w2 : World} {base g rb cap : Nat} {qs : List PQ} {n : Nat} (h : CRep w base g rb cap qs) (hg : w.grownBy w2 (Value.slice (some ⟨rb,0,none⟩) n cap).ownBlock) : Blk w2 g 127 #[.slice (some ⟨rb,0,none⟩) qs.length cap] :=
 h.blk.grown hg (by intro e; injection e with e; exact h.rb_ne e)
theorem CRep.pushed {w w2 : World} {base g rb cap rb2 c2 : Nat} {qs : List PQ} {k : Int} (h : CRep w base g rb cap qs) (hg : w.grownBy w2 (Value.slice (some ⟨rb,0,none⟩) qs.length cap).ownBlock) (hnb : NB w (Value.slice (some ⟨rb,0,none⟩) qs.length cap) (Value.slice (some ⟨rb2,0,none⟩) (qs.length + 1) c2))
 (hr : w2.ownsRow base 124 3 (.slice (some ⟨rb2,0,none⟩) (qs.length + 1) c2) (qs.length + 1) (qcs qs ++ [.int .i64 k,.int .i64 0,.map none])) :
 CRep (w2.setCell ⟨g,0,none⟩ (.slice (some ⟨rb2,0,none⟩) (qs.length + 1) c2)) base g rb2 c2 (⟨⟨k,0,[]⟩,none⟩ :: qs) /\ Tch base cObj w (w2.setCell ⟨g,0,none⟩ (.slice (some ⟨rb2,0,none⟩) (qs.length + 1) c2)):=by
 have hk2:=h.far_row hg
 obtain ⟨cur,hcur⟩:=h.row_obj
 have T1 : Tch base cObj w w2:=Tch.of_grown hg h.rb_ge h.nf.2.1 hcur (.inr rfl)
 have hnr : NF (Value.slice (some ⟨rb,0,none⟩) qs.length cap):=fun g' e => by injection e with e; subst e; exact h.nf.2.1
 refine ⟨⟨h.hg,hk2.set_ 0 _,?_,?_,h.nf.1,hnr.nb hnb h.nf.2.2 rb2 rfl,Nat.le_trans h.nf.2.2 (Nat.le_trans hg.size (by simp [World.setCell]))⟩,T1.set hk2 h.hg h.nf.1 (.inl rfl) 0 _⟩
 ·refine World.ownsRow.kept (row:=some g) hr (only_setCell (p:=⟨g,0,none⟩) (World.grownBy.refl _ (some g)) (.inl rfl) _) (.inr ?_)
  intro e
  obtain ⟨cur2,hcur2⟩:=Go.Proofs.YtbnppjmmlfncmaaGreatDoor.row_obj hr e
  unfold Blk at hk2
  rw [hk2] at hcur2
  cases hcur2
 ·refine ⟨fun b hb => (by cases hb),rfl,?_⟩
  refine h.maps.keep fun _ _ b _ hb => ?_
  have hne:=h.map_ne hb
  refine (Below.heap_setCell w2 ⟨g,0,none⟩ _ b hne.1).trans (hg.block b ?_ ?_)
  ·obtain ⟨es,c,hb⟩:=hb
   exact (Array.getElem?_eq_some_iff.1 hb).1
  ·intro e
   injection e with e
   exact hne.2 e
theorem CRep.set_lastX {w : World} {base g rb cap b : Nat} {q : PQ} {r : List PQ} {x : Ev} (h : CRep w base g rb cap (q :: r)) (hX : EvAt w b x) :
 CRep (w.setCell ⟨rb,r.length * 3 + 1,none⟩ (.int .i64 x.k)) base g rb cap (⟨{ q.p with last:=x.k },q.m⟩ :: r) /\ Tch base cObj w (w.setCell ⟨rb,r.length * 3 + 1,none⟩ (.int .i64 x.k)) /\
 EvAt (w.setCell ⟨rb,r.length * 3 + 1,none⟩ (.int .i64 x.k)) b x :=
 ⟨h.set_last _,h.touch _ _,hX.of_c (h.touch _ _)⟩
section
variable (w : World) (base g rb cap : Nat) (q : PQ) (r : List PQ) (x : Ev)
set_option maxHeartbeats 4000000 in
theorem step_open (h : CRep w base g rb cap (q :: r)) (hl : r.length <= 6) (hw : NumW x.k w) (hs : x.t.size <= 140737488355328) (hf : formedB x = true) (hn : contB q.p.kind q.p.last x.k (emptyT x.t) = true) (hk : opensK x.k = true) (h6 : ¬ 6 <= r.length) :
 Calls Tryz.prog 45 #[.pointer (some ⟨g,0,none⟩),evV x] w (SPost w base g (ptsOf (q :: r)) x):=by
 have hne : endsK x.k = false:=opens_not_ends' hk
 have hE : stepE (ptsOf (q :: r)) x = 0:=by rw [ptsOf_cons]; simp only [stepE]; rw [if_neg (by rw [hf,hn]; decide),if_neg (by rw [hne]; decide),if_pos hk,if_neg (by rw [ptsOf_len]; exact h6)]
 have hS : stepS (ptsOf (q :: r)) x = ptsOf (⟨⟨x.k,0,[]⟩,none⟩ :: ⟨{ q.p with last:=x.k },q.m⟩ :: r):=by
  unfold stepS; rw [hE,if_pos rfl,ptsOf_cons]; simp only [goS]; rw [if_neg (by rw [hne]; decide),if_pos hk]; rfl
 unfold SPost
 rw [hE,hS]
 clear hE hS hne
 have hF:=fun w' h => formedV (x:=x) (w':=w') h hs
 have hN:=fun w' h => continuesV (base:=base) (g:=g) (rb:=rb) (cap:=cap) (q:=q) (r:=r) (x:=x) (w':=w') h
 have hD : ∀ w',CRep w' base g rb cap (q :: r) -> Calls Tryz.prog 81 #[.pointer (some ⟨g,0,none⟩)] w' fun e w'' => e = .returned (.int .i64 r.length) /\ w'' = w':=by
  intro w' hw'
  refine (depth_any w' base g _ ⟨rb,cap,q :: r,rfl,hw'⟩ (by rw [ptsOf_len]; simp; omega)).mono ?_
  rintro e w'' ⟨rfl,rfl⟩
  rw [ptsOf_len,List.length_cons]
  exact ⟨by congr 2; omega,rfl⟩
 unfold evV
 have HF:=Lib.hid hf
 have HC:=Lib.hid hn
 have h6i : (r.length : Int) < 6:=by omega
 clear hf hn h6
 unfold opensK at hk
 rw [decide_eq_true_iff] at hk
 have hA:=h.alloc (.cells #[.int .i64 x.k,.string x.t,.string x.v] 67)
 have hX:=EvAt.new w x
 have hbel:=(Below.refl w.heap.size w).alloc (Nat.le_refl _) (.cells #[.int .i64 x.k,.string x.t,.string x.v] 67)
 obtain ⟨k,t,v⟩:=x
 simp only at *
 rcases hk with rfl | rfl | rfl
 all_goals
  have hc:=hA.c
  have hltA:=hA.lt
  have hlrA:=hA.rb_lt
  go_enter Tryz.func45,Tryz.ntmps45
  go_wp2_with fail
  go_quiet (fail)
  rename_i nq
  replace hA:=hA.drewN nq
  replace hX:=hX.drewN nq
  replace hbel:=below_drewN hbel nq
  generalize World.drewN _ nq = w1 at *
  have hw1:=hw.below hbel
  have x0:=hX.c0
  have x1:=hX.c1
  have x2:=hX.c2
  go_wp2_with (first
   | (go_at_call 78; refine (hF _ hw1).mono ?_; rintro e w2 ⟨rfl,hb2⟩; rw [HF.out]; have hA2:=hA.below hb2; have hX2:=hX.below hb2; have y0:=hX2.c0; have y1:=hX2.c1; have y2:=hX2.c2)
   | (go_at_call 79; refine (hN _ hA2).mono ?_; rintro e w3 ⟨rfl,hb3⟩; rw [HC.out]; have hA3:=hA2.below hb3; have hX3:=hX2.below hb3; have z0:=hX3.c0; have fz:=hA3.frz (r.length * 3 + 1); have lc:=hA3.c1; have lr:=hA3.rb_lt)
   | (go_at_call 81; refine (hD _ hA3).mono ?_; rintro e w4 ⟨rfl,rfl⟩))
  obtain ⟨hA5,hT5,hX5⟩:=hA3.set_lastX hX3
  simp only at hA5 hT5 hX5
  generalize w4.setCell _ _ = w5 at *
  have d0:=hX5.c0
  have dc:=hA5.c
  have gl:=hA5.lt
  have el:=Blk.lt hX5
  have hbs : base <= w5.heap.size:=by have:=hA5.hg; have:=hA5.lt; omega
  have h63 : (r.length + 1) + 1 <= maxLen:=by simp only [maxLen]; omega
  have h24 : ((r.length + 1) + 1) * 24 <= 140737488355328:=by omega
  have hrow:=hA5.drew.row
  go_region_law ((refine step_appG (by rfl) (.tmp 51) (.tmp 55) 125 (by rfl) base 124 _ 3 24 Tryz.underlying125 Tryz.infoPart (by rfl) (by decide) (.slice (some ⟨rb,0,none⟩) (r.length + 1) cap) (r.length + 1) _ [.int .i64 _,.int .i64 0,.map none] (by rfl) (by exact World.ownsRow.alloc hrow _) (by simp [Value.oneCell']) ⟨w5.heap.size,0,none⟩ 1 1 (by rfl) (by rfl) (by exact cellsOf3 w5.drew _ _ _ _) h63 h24 (by simp; omega) ?_; intro v2 w6 hown hg6 hnb6; obtain ⟨rb2,c2,rfl⟩:=rowN_shape hown (Nat.succ_pos _); have hk6:=(hA5.drew.alloc (.cells #[.int .i64 _,.int .i64 0,.map none] 124)).far_row hg6; have ec0:=hk6.cell 0; have ef0:=hk6.frozen 0; have el0:=hk6.lt))
  all_goals
   go_wp2
   go_ret
   obtain ⟨r1,r2⟩:=(hA5.drew.alloc (.cells #[.int .i64 _,.int .i64 0,.map none] 124)).pushed hg6 hnb6 hown
   exact ⟨rfl,⟨rb2,c2,_,rfl,r1⟩,((((((Tch.of_below hbel).trans (Tch.of_below hb2)).trans (Tch.of_below hb3)).trans hT5).drew).alloc _).trans r2⟩
theorem step_rep (h : CRep w base g rb cap (q :: r)) (hl : r.length <= 6) (hw : NumW x.k w) (hs : x.t.size <= 140737488355328) :
 Calls Tryz.prog 45 #[.pointer (some ⟨g,0,none⟩),evV x] w (SPost w base g (ptsOf (q :: r)) x):=by
 cases hf : formedB x with
 | false => exact step_bad w base g rb cap q r x h hl hw hs (.inl hf)
 | true =>
  cases hn : contB q.p.kind q.p.last x.k (emptyT x.t) with
  | false => exact step_bad w base g rb cap q r x h hl hw hs (.inr hn)
  | true =>
   by_cases h1 : endsK x.k = true
   ·exact step_close w base g rb cap q r x h hl hw hs hf hn h1
   by_cases h2 : opensK x.k = true
   ·by_cases h6 : 6 <= r.length
    ·exact step_deep w base g rb cap q r x h hl hw hs hf hn h2 h6
    ·exact step_open w base g rb cap q r x h hl hw hs hf hn h2 h6
   by_cases h3 : x.k = 8 \/ x.k = 11
   ·exact step_key w base g rb cap q r x h hl hw hs hf hn h3
   ·refine step_plain w base g rb cap q r x h hl hw hs hf hn ?_
    unfold endsK at h1
    unfold opensK at h2
    rw [decide_eq_true_iff] at h1 h2
    unfold formedB bareK at hf
    repeat' split at hf
    all_goals first
     | omega
     | (exfalso; exact absurd hf (by decide))
     | (rename_i hb; rw [decide_eq_true_iff] at hb; omega)
end
theorem estep_any (w : World) (base g : Nat) (st : List Pt) (x : Ev) (h : CAt w base g st) (hg : Good st) (hw : NumW x.k w) (hs : x.t.size <= 140737488355328) :
 Calls Tryz.prog 45 #[.pointer (some ⟨g,0,none⟩),evV x] w (SPost w base g st x):=by
 obtain ⟨rb,cap,qs,rfl,h⟩:=h
 cases qs with
 | nil => exact hg.1.elim
 | cons q r => exact step_rep w base g rb cap q r x h (by have:=hg.2; rw [ptsOf_cons,List.length_cons,ptsOf_len] at this; omega) hw hs
end Go.Proofs.YtbnppjmmlfncmaaGreatDoor
namespace Go.Proofs.YtbnppjmmlfncmaaGreatDoor
open Go.RowKit Go.Maps
variable [Fo]
def ERead (w : World) (v : Value) (xs : List Ev) : Prop :=
 ∃ A c,v = .slice A xs.length c /\ xs.length <= c /\ c <= maxLen /\ (0 < xs.length -> ∃ b o : Nat,A = some ⟨b,o,none⟩ /\ ∀ j (h : j < xs.length),
  w.cell? ⟨b,o + j * 3,none⟩ = some (.int .i64 (xs[j]).k) /\ w.cell? ⟨b,o + j * 3 + 1,none⟩ = some (.string (xs[j]).t) /\ w.cell? ⟨b,o + j * 3 + 2,none⟩ = some (.string (xs[j]).v))
theorem ERead.below {w w' : World} {v : Value} {xs : List Ev} (h : ERead w v xs) (hb : Below w.heap.size w w') : ERead w' v xs:=by
 obtain ⟨A,c,rfl,h1,h2,h3⟩:=h
 refine ⟨A,c,rfl,h1,h2,fun hp => ?_⟩
 obtain ⟨b,o,rfl,hc⟩:=h3 hp
 refine ⟨b,o,rfl,fun j hj => ?_⟩
 obtain ⟨c0,c1,c2⟩:=hc j hj
 exact ⟨(hb.cell (cell_lt c0)).trans c0,(hb.cell (cell_lt c1)).trans c1,(hb.cell (cell_lt c2)).trans c2⟩
theorem ERead.take {w : World} {A : Option Addr} {n c : Nat} {xs : List Ev} (h : ERead w (.slice A n c) xs) {k : Nat} (hk : k <= xs.length) : ERead w (.slice A k c) (xs.take k):=by
 obtain ⟨A',c',hv,h1,h2,h3⟩:=h
 injection hv with e1 e2 e3
 subst e1 e2 e3
 have hl : (xs.take k).length = k:=by rw [List.length_take,Nat.min_eq_left hk]
 refine ⟨A,c,by rw [hl],by omega,h2,fun hp => ?_⟩
 obtain ⟨b,o,rfl,hc⟩:=h3 (by omega)
 refine ⟨b,o,rfl,fun j hj => ?_⟩
 rw [List.getElem_take]
 exact hc j (by omega)
def NumWs (xs : List Ev) (w : World) : Prop:=(∃ x ∈ xs,x.k = 3) -> Nm.StdW w
theorem NumWs.of {xs : List Ev} {w : World} (h : Nm.StdW w) : NumWs xs w:=fun _ => h
theorem NumWs.below {xs : List Ev} {w w' : World} (h : NumWs xs w) (hb : Below w.heap.size w w') : NumWs xs w':=fun e => (h e).below hb
theorem NumWs.at {xs : List Ev} {w : World} (h : NumWs xs w) {x : Ev} (hx : x ∈ xs) : NumW x.k w:=fun e => h ⟨x,hx,e⟩
def WEnd (p : Nat × Int) : Ending:=.returned (.tuple #[.int .i64 p.1,.int .i64 p.2])
end Go.Proofs.YtbnppjmmlfncmaaGreatDoor
namespace Go.Proofs.YtbnppjmmlfncmaaGreatDoor
open Go.RowKit Go.Maps
variable [Fo]
def evc (x : Ev) : List Value:=[.int .i64 x.k,.string x.t,.string x.v]
def evcs (l : List Ev) : List Value:=l.flatMap evc
theorem evcs_len (l : List Ev) : (evcs l).length = l.length * 3:=by
 induction l with
 | nil => rfl
 | cons x l ih => simp only [evcs,List.flatMap_cons,List.length_append,List.length_cons] at ih ⊢; rw [ih]; simp [evc]; omega
theorem evcs_get : ∀ (l : List Ev) (k : Nat) (h : k < l.length) (j : Nat) (_ : j < 3),(evcs l)[k * 3 + j]? = (evc l[k])[j]?
 | x :: l,0,_,j,hj => by
  simp only [evcs,List.flatMap_cons]
  rw [List.getElem?_append_left (by simp [evc]; omega)]
  simp
 | x :: l,k + 1,h,j,hj => by
  have ih:=evcs_get l k (by simpa using h) j hj
  simp only [evcs,List.flatMap_cons] at ih ⊢
  rw [List.getElem?_append_right (by simp [evc]; omega),show (k + 1) * 3 + j - (evc x).length = k * 3 + j by simp [evc]; omega,ih]
  simp
theorem evcs_snoc (l : List Ev) (x : Ev) : evcs (l ++ [x]) = evcs l ++ evc x:=by simp [evcs]
theorem Tryz.infoEv : (Tryz.prog.info? 67).map (fun i => (i.zero,i.size,i.bytes)) = some (some (.agg #[.int .i64 0,.string ⟨#[]⟩,.string ⟨#[]⟩]),3,40):=by kernel_rfl
def ERow (w : World) (base : Nat) (v : Value) (l : List Ev) : Prop:=w.ownsRow base 67 3 v l.length (evcs l)
def eObj : Obj -> Prop
 | .cells _ t _ => t = 67
 | _ => False
theorem ERow.nil (w : World) (base : Nat) : ERow w base (.slice none 0 0) []:=World.ownsRow_nil w base _ 3
theorem ERow.read {w : World} {base : Nat} {v : Value} {l : List Ev} (h : ERow w base v l) : ERead w v l:=by
 have hr:=h
 unfold ERow at hr
 rcases hr.2 with ⟨rfl,h0⟩ | ⟨r,c,cur,rfl,hg,hh,hnc,hm,hs,ht⟩
 ·exact ⟨none,0,by rw [h0],by omega,Nat.zero_le _,fun hp => by omega⟩
 ·refine ⟨some ⟨r,0,none⟩,c,rfl,hnc,hm,fun _ => ⟨r,0,rfl,fun j hj => ?_⟩⟩
  have hat : ∀ i,i < 3 -> w.cell? ⟨r,j * 3 + i,none⟩ = (evc l[j])[i]?:=by
   intro i hi
   rw [Blk.cell hh,<- evcs_get l j hj i hi,<- ht,List.getElem?_take_of_lt (by omega),Array.getElem?_toList]
  rw [Nat.zero_add]
  have h0:=hat 0 (by omega)
  have h1:=hat 1 (by omega)
  have h2:=hat 2 (by omega)
  exact ⟨h0,h1,h2⟩
theorem ERow.below {w w' : World} {base : Nat} {v : Value} {l : List Ev} (h : ERow w base v l) (hb : Below w.heap.size w w') : ERow w' base v l :=
 row_tch (base:=base) (p:=fun _ => False) h (Tch.of_below hb) (fun _ _ h => h)
theorem ERow.of_c {w w' : World} {base : Nat} {v : Value} {l : List Ev} (h : ERow w base v l) (ht : Tch base cObj w w') : ERow w' base v l :=
 row_tch h ht (fun _ _ => by simp only [cObj]; decide)
theorem CAt.of_e {w w' : World} {base g : Nat} {st : List Pt} (h : CAt w base g st) (ht : Tch base eObj w w') : CAt w' base g st :=
 h.tch ht (fun cs t fr h hc => by simp only [eObj] at hc; rcases h with rfl | rfl <;> exact absurd hc (by decide)) (fun _ _ hc => hc)
theorem ERow.shape {w : World} {base : Nat} {v : Value} {l : List Ev} (h : ERow w base v l) : ∃ A c,v = .slice A l.length c:=by
 rcases h.2 with ⟨rfl,h0⟩ | ⟨g,cap,cur,rfl,_⟩
 ·exact ⟨_,_,by rw [h0]⟩
 ·exact ⟨_,_,rfl⟩
theorem ERow.alloc {w : World} {base : Nat} {v : Value} {l : List Ev} (h : ERow w base v l) (o : Obj) : ERow (w.alloc o) base v l:=World.ownsRow.alloc h o
end Go.Proofs.YtbnppjmmlfncmaaGreatDoor
