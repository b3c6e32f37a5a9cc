/-
  events: Step of a Check: an End, a thing too deep, a key, anything else.
  events: Step of a Check: a value that opens nothing, a key.
  events: Step of a Check where a thing opens; Step, whole.
  lives: the document's examples of layer 5 come out true.
  events: slices of events that can be read; Whole.
  The reference's At (hexaplaref05): where one stands behind some events.
  A list of events that a call has made: appended to, read; it and a Check keep clear of each other.
-/
import Derived.Test.YtbnppjmmlfncmaaGreatDoorIsA17
import Derived.KernelRfl
import Derived.Test.YtbnppjmmlfncmaaGreatDoorIsA04
set_option maxRecDepth 100000
namespace Go.Proofs.YtbnppjmmlfncmaaGreatDoor
open Go.RowKit Go.Maps
section
variable (w : World) (base g rb cap : Nat) (q : PQ) (r : List PQ) (x : Ev)
set_option maxHeartbeats 4000000 in
theorem step_close (h : CRep w base g rb cap (q :: r)) (hl : r.length <= 6) (hw : Nm.StdW w) (hs : x.t.size <= 140737488355328) (hf : formedB x = true) (hn : contB q.p.kind q.p.last x.k (emptyT x.t) = true) (hk : endsK x.k = true) :
 Calls Tryz.prog 45 #[.pointer (some ⟨g,0,none⟩),evV x] w (SPost w base g (ptsOf (q :: r)) x):=by
 have hE : stepE (ptsOf (q :: r)) x = 0:=by rw [ptsOf_cons]; simp only [stepE]; rw [if_neg (by rw [hf,hn]; decide),if_pos hk]
 have hS : stepS (ptsOf (q :: r)) x = ptsOf r:=by unfold stepS; rw [hE,if_pos rfl,ptsOf_cons]; simp only [goS]; rw [if_pos hk]
 unfold SPost
 rw [hE,hS]
 clear hE hS
 have hF:=fun w' h => @formedV x w' h hs
 have hN:=fun w' h => @continuesV base g rb cap q r x w' h
 unfold evV
 have HF:=Lib.hid hf
 have HC:=Lib.hid hn
 clear hf hn
 unfold endsK at hk
 rw [decide_eq_true_iff] at hk
 have hA:=h.alloc (.cells #[.int .i64 x.k,.string x.t,.string x.v] 67)
 have hX:=EvAt.new w x
 have hbel:=(Below.refl w.heap.size w).alloc (Nat.le_refl _) (.cells #[.int .i64 x.k,.string x.t,.string x.v] 67)
 obtain ⟨k,t,v⟩:=x
 simp only at *
 rcases hk with rfl | rfl | rfl
 all_goals
  have hc:=hA.c
  have hltA:=hA.lt
  have hlrA:=hA.rb_lt
  go_enter Tryz.func45,Tryz.ntmps45
  go_wp2_with fail
  go_quiet (fail)
  rename_i nq
  replace hA:=hA.drewN nq
  replace hX:=hX.drewN nq
  replace hbel:=below_drewN hbel nq
  generalize World.drewN _ nq = w1 at *
  have hw1:=hw.below hbel
  have x0:=hX.c0
  have x1:=hX.c1
  have x2:=hX.c2
  go_wp2_with (first
   | (go_at_call 78; refine (hF _ hw1).mono ?_; rintro e w2 ⟨rfl,hb2⟩; rw [HF.out]; have hA2:=hA.below hb2; have hX2:=hX.below hb2; have y0:=hX2.c0; have y1:=hX2.c1; have y2:=hX2.c2)
   | (go_at_call 79; refine (hN _ hA2).mono ?_; rintro e w3 ⟨rfl,hb3⟩; rw [HC.out]; have hA3:=hA2.below hb3; have z0:=(hX2.below hb3).c0)
   | (go_at_call 80; refine (close_any _ base g rb cap q r hA3 hl).mono ?_; rintro e w4 ⟨rfl,hA4,hT4⟩))
  go_ret
  exact ⟨rfl,⟨rb,cap,r,rfl,hA4⟩,(((Tch.of_below hbel).trans (Tch.of_below hb2)).trans (Tch.of_below hb3)).trans hT4⟩
set_option maxHeartbeats 4000000 in
theorem step_deep (h : CRep w base g rb cap (q :: r)) (hl : r.length <= 6) (hw : Nm.StdW w) (hs : x.t.size <= 140737488355328) (hf : formedB x = true) (hn : contB q.p.kind q.p.last x.k (emptyT x.t) = true) (hk : opensK x.k = true) (h6 : 6 <= r.length) :
 Calls Tryz.prog 45 #[.pointer (some ⟨g,0,none⟩),evV x] w (SPost w base g (ptsOf (q :: r)) x):=by
 have hne : endsK x.k = false:=opens_not_ends' hk
 have hE : stepE (ptsOf (q :: r)) x = 5:=by rw [ptsOf_cons]; simp only [stepE]; rw [if_neg (by rw [hf,hn]; decide),if_neg (by rw [hne]; decide),if_pos hk,if_pos (by rw [ptsOf_len]; exact h6)]
 have hS : stepS (ptsOf (q :: r)) x = ptsOf (q :: r):=by unfold stepS; rw [hE,if_neg (by decide)]
 have hr6 : r.length = 6:=by omega
 unfold SPost
 rw [hE,hS]
 clear hE hS hne
 have hF:=fun w' h => @formedV x w' h hs
 have hN:=fun w' h => @continuesV base g rb cap q r x w' h
 have hD : ∀ w',CRep w' base g rb cap (q :: r) -> Calls Tryz.prog 81 #[.pointer (some ⟨g,0,none⟩)] w' fun e w'' => e = .returned (.int .i64 6) /\ w'' = w':=by
  intro w' hw'
  refine (depth_any w' base g _ ⟨rb,cap,q :: r,rfl,hw'⟩ (by rw [ptsOf_len]; simp; omega)).mono ?_
  rintro e w'' ⟨rfl,rfl⟩
  rw [ptsOf_len,List.length_cons,hr6]
  exact ⟨rfl,rfl⟩
 clear hr6 h6
 unfold evV
 have HF:=Lib.hid hf
 have HC:=Lib.hid hn
 clear hf hn
 unfold opensK at hk
 rw [decide_eq_true_iff] at hk
 have hA:=h.alloc (.cells #[.int .i64 x.k,.string x.t,.string x.v] 67)
 have hX:=EvAt.new w x
 have hbel:=(Below.refl w.heap.size w).alloc (Nat.le_refl _) (.cells #[.int .i64 x.k,.string x.t,.string x.v] 67)
 obtain ⟨k,t,v⟩:=x
 simp only at *
 rcases hk with rfl | rfl | rfl
 all_goals
  have hc:=hA.c
  have hltA:=hA.lt
  have hlrA:=hA.rb_lt
  go_enter Tryz.func45,Tryz.ntmps45
  go_wp2_with fail
  go_quiet (fail)
  rename_i nq
  replace hA:=hA.drewN nq
  replace hX:=hX.drewN nq
  replace hbel:=below_drewN hbel nq
  generalize World.drewN _ nq = w1 at *
  have hw1:=hw.below hbel
  have x0:=hX.c0
  have x1:=hX.c1
  have x2:=hX.c2
  go_wp2_with (first
   | (go_at_call 78; refine (hF _ hw1).mono ?_; rintro e w2 ⟨rfl,hb2⟩; rw [HF.out]; have hA2:=hA.below hb2; have hX2:=hX.below hb2; have y0:=hX2.c0; have y1:=hX2.c1; have y2:=hX2.c2)
   | (go_at_call 79; refine (hN _ hA2).mono ?_; rintro e w3 ⟨rfl,hb3⟩; rw [HC.out]; have hA3:=hA2.below hb3; have z0:=(hX2.below hb3).c0)
   | (go_at_call 81; refine (hD _ hA3).mono ?_; rintro e w4 ⟨rfl,rfl⟩))
  go_ret
  exact ⟨rfl,⟨rb,cap,q :: r,rfl,hA3⟩,((Tch.of_below hbel).trans (Tch.of_below hb2)).trans (Tch.of_below hb3)⟩
end
section
variable (w : World) (base g rb cap : Nat) (q : PQ) (r : List PQ) (x : Ev)
set_option maxHeartbeats 4000000 in
theorem step_plain (h : CRep w base g rb cap (q :: r)) (hl : r.length <= 6) (hw : Nm.StdW w) (hs : x.t.size <= 140737488355328) (hf : formedB x = true) (hn : contB q.p.kind q.p.last x.k (emptyT x.t) = true) (hk : x.k = 1 \/ x.k = 2 \/ x.k = 3 \/ x.k = 4) :
 Calls Tryz.prog 45 #[.pointer (some ⟨g,0,none⟩),evV x] w (SPost w base g (ptsOf (q :: r)) x):=by
 have hne : endsK x.k = false:=by unfold endsK; rw [decide_eq_false_iff_not]; omega
 have hno : opensK x.k = false:=by unfold opensK; rw [decide_eq_false_iff_not]; omega
 have hE : stepE (ptsOf (q :: r)) x = 0:=by rw [ptsOf_cons]; simp only [stepE]; rw [if_neg (by rw [hf,hn]; decide),if_neg (by rw [hne]; decide),if_neg (by rw [hno]; decide),if_neg (by omega)]
 have hS : stepS (ptsOf (q :: r)) x = ptsOf (⟨{ q.p with last:=x.k },q.m⟩ :: r):=by
  unfold stepS; rw [hE,if_pos rfl,ptsOf_cons]; simp only [goS]; rw [if_neg (by rw [hne]; decide),if_neg (by rw [hno]; decide),if_neg (by omega)]; rfl
 unfold SPost
 rw [hE,hS]
 clear hE hS hne hno
 have hF:=fun w' h => @formedV x w' h hs
 have hN:=fun w' h => @continuesV base g rb cap q r x w' h
 unfold evV
 have HF:=Lib.hid hf
 have HC:=Lib.hid hn
 clear hf hn
 have hA:=h.alloc (.cells #[.int .i64 x.k,.string x.t,.string x.v] 67)
 have hX:=EvAt.new w x
 have hbel:=(Below.refl w.heap.size w).alloc (Nat.le_refl _) (.cells #[.int .i64 x.k,.string x.t,.string x.v] 67)
 obtain ⟨k,t,v⟩:=x
 simp only at *
 rcases hk with rfl | rfl | rfl | rfl
 all_goals
  have hc:=hA.c
  have hltA:=hA.lt
  have hlrA:=hA.rb_lt
  go_enter Tryz.func45,Tryz.ntmps45
  go_wp2_with fail
  go_quiet (fail)
  rename_i nq
  replace hA:=hA.drewN nq
  replace hX:=hX.drewN nq
  replace hbel:=below_drewN hbel nq
  generalize World.drewN _ nq = w1 at *
  have hw1:=hw.below hbel
  have x0:=hX.c0
  have x1:=hX.c1
  have x2:=hX.c2
  go_wp2_with (first
   | (go_at_call 78; refine (hF _ hw1).mono ?_; rintro e w2 ⟨rfl,hb2⟩; rw [HF.out]; have hA2:=hA.below hb2; have hX2:=hX.below hb2; have y0:=hX2.c0; have y1:=hX2.c1; have y2:=hX2.c2)
   | (go_at_call 79; refine (hN _ hA2).mono ?_; rintro e w3 ⟨rfl,hb3⟩; rw [HC.out]; have hA3:=hA2.below hb3; have z0:=(hX2.below hb3).c0; have fz:=hA3.frz (r.length * 3 + 1); have lc:=hA3.c1; have lr:=hA3.rb_lt))
  go_ret
  exact ⟨rfl,⟨rb,cap,_,rfl,hA3.set_last _⟩,(((Tch.of_below hbel).trans (Tch.of_below hb2)).trans (Tch.of_below hb3)).trans (hA3.touch _ _)⟩
set_option maxHeartbeats 4000000 in
theorem step_key (h : CRep w base g rb cap (q :: r)) (hl : r.length <= 6) (hw : Nm.StdW w) (hs : x.t.size <= 140737488355328) (hf : formedB x = true) (hn : contB q.p.kind q.p.last x.k (emptyT x.t) = true) (hk : x.k = 8 \/ x.k = 11) :
 Calls Tryz.prog 45 #[.pointer (some ⟨g,0,none⟩),evV x] w (SPost w base g (ptsOf (q :: r)) x):=by
 have hne : endsK x.k = false:=by unfold endsK; rw [decide_eq_false_iff_not]; omega
 have hno : opensK x.k = false:=by unfold opensK; rw [decide_eq_false_iff_not]; omega
 have hE : stepE (ptsOf (q :: r)) x = addE q.p.keys x.t.data.toList:=by rw [ptsOf_cons]; simp only [stepE]; rw [if_neg (by rw [hf,hn]; decide),if_neg (by rw [hne]; decide),if_neg (by rw [hno]; decide),if_pos hk]; rfl
 have hF:=fun w' h => @formedV x w' h hs
 have hN:=fun w' h => @continuesV base g rb cap q r x w' h
 have hD:=fun w' (h : CRep w' base g rb cap (q :: r)) => add_any w' base g rb cap q r x.t h hs
 have HF:=Lib.hid hf
 have HC:=Lib.hid hn
 clear hf hn
 have hA:=h.alloc (.cells #[.int .i64 x.k,.string x.t,.string x.v] 67)
 have hX:=EvAt.new w x
 have hbel:=(Below.refl w.heap.size w).alloc (Nat.le_refl _) (.cells #[.int .i64 x.k,.string x.t,.string x.v] 67)
 by_cases hz : addE q.p.keys x.t.data.toList = 0
 ·have hS : stepS (ptsOf (q :: r)) x = ptsOf (⟨{ q.p with last:=x.k,keys:=addK q.p.keys x.t.data.toList },q.m⟩ :: r):=by
   unfold stepS; rw [hE,if_pos hz,ptsOf_cons]; simp only [goS]; rw [if_neg (by rw [hne]; decide),if_neg (by rw [hno]; decide),if_pos hk]; unfold addK; rw [if_pos hz]; rfl
  unfold SPost
  rw [hE,hS]
  clear hE hS hne hno
  unfold APost at hD
  rw [hz] at hD ⊢
  have hz' : (0 : Int) ≠ 1:=by decide
  generalize addK q.p.keys x.t.data.toList = ks at *
  unfold evV
  obtain ⟨k,t,v⟩:=x
  simp only at *
  rcases hk with rfl | rfl
  all_goals
   have hc:=hA.c
   have hltA:=hA.lt
   have hlrA:=hA.rb_lt
   go_enter Tryz.func45,Tryz.ntmps45
   go_wp2_with fail
   go_quiet (fail)
   rename_i nq
   replace hA:=hA.drewN nq
   replace hX:=hX.drewN nq
   replace hbel:=below_drewN hbel nq
   generalize World.drewN _ nq = w1 at *
   have hw1:=hw.below hbel
   have x0:=hX.c0
   have x1:=hX.c1
   have x2:=hX.c2
   go_wp2_with (first
    | (go_at_call 78; refine (hF _ hw1).mono ?_; rintro e w2 ⟨rfl,hb2⟩; rw [HF.out]; have hA2:=hA.below hb2; have hX2:=hX.below hb2; have y0:=hX2.c0; have y1:=hX2.c1; have y2:=hX2.c2)
    | (go_at_call 79; refine (hN _ hA2).mono ?_; rintro e w3 ⟨rfl,hb3⟩; rw [HC.out]; have hA3:=hA2.below hb3; have hX3:=hX2.below hb3; have z0:=hX3.c0; have z1:=hX3.c1)
    | (go_at_call 82; refine (hD _ hA3).mono ?_; rintro e w4 ⟨rfl,⟨m',hA4⟩,hT4⟩; have u0:=(hX3.of_c hT4).c0; have fz:=hA4.frz (r.length * 3 + 1); have lc:=hA4.c1; have lr:=hA4.rb_lt))
   go_ret
   exact ⟨rfl,⟨rb,cap,⟨_,m'⟩ :: r,rfl,hA4.set_last _⟩,((((Tch.of_below hbel).trans (Tch.of_below hb2)).trans (Tch.of_below hb3)).trans hT4).trans (hA4.touch _ _)⟩
 ·have hS : stepS (ptsOf (q :: r)) x = ptsOf (⟨{ q.p with keys:=addK q.p.keys x.t.data.toList },q.m⟩ :: r):=by
   unfold stepS; rw [hE,if_neg hz]; unfold addK; rw [if_neg hz]
  unfold SPost
  rw [hE,hS]
  clear hE hS hne hno
  unfold APost at hD
  generalize addK q.p.keys x.t.data.toList = ks at *
  generalize addE q.p.keys x.t.data.toList = E at *
  have e0:=ne_beq hz
  have e1:=ne_bne hz
  unfold evV
  obtain ⟨k,t,v⟩:=x
  simp only at *
  rcases hk with rfl | rfl
  all_goals
   have hc:=hA.c
   have hltA:=hA.lt
   have hlrA:=hA.rb_lt
   go_enter Tryz.func45,Tryz.ntmps45
   go_wp2_with fail
   go_quiet (fail)
   rename_i nq
   replace hA:=hA.drewN nq
   replace hX:=hX.drewN nq
   replace hbel:=below_drewN hbel nq
   generalize World.drewN _ nq = w1 at *
   have hw1:=hw.below hbel
   have x0:=hX.c0
   have x1:=hX.c1
   have x2:=hX.c2
   go_wp2_with (first
    | (go_at_call 78; refine (hF _ hw1).mono ?_; rintro e w2 ⟨rfl,hb2⟩; rw [HF.out]; have hA2:=hA.below hb2; have hX2:=hX.below hb2; have y0:=hX2.c0; have y1:=hX2.c1; have y2:=hX2.c2)
    | (go_at_call 79; refine (hN _ hA2).mono ?_; rintro e w3 ⟨rfl,hb3⟩; rw [HC.out]; have hA3:=hA2.below hb3; have hX3:=hX2.below hb3; have z0:=hX3.c0; have z1:=hX3.c1)
    | (go_at_call 82; refine (hD _ hA3).mono ?_; rintro e w4 ⟨rfl,⟨m',hA4⟩,hT4⟩))
   go_ret
   exact ⟨rfl,⟨rb,cap,⟨_,m'⟩ :: r,rfl,hA4⟩,(((Tch.of_below hbel).trans (Tch.of_below hb2)).trans (Tch.of_below hb3)).trans hT4⟩
end
theorem Tryz.infoPart : (Tryz.prog.info? 124).map (fun i => (i.zero,i.size,i.bytes)) = some (some (.agg #[.int .i64 0,.int .i64 0,.map none]),3,24):=by kernel_rfl
theorem cellsOf3 (w : World) (a b c : Value) (t : TypeId) : ∀ j u,[a,b,c][j]? = some u -> (w.alloc (.cells #[a,b,c] t)).cell? ((⟨w.heap.size,0,none⟩ : Addr).add j) = some u:=by
 intro j u hj
 rw [addr_add0]
 exact (Blk.new w t #[a,b,c]).cell j |>.trans (by simpa using hj)
theorem rowN_shape {w : World} {base : Nat} {e : TypeId} {size n : Nat} {v : Value} {xs : List Value} (h : w.ownsRow base e size v n xs) (hn : 0 < n) : ∃ r c,v = .slice (some ⟨r,0,none⟩) n c:=by
 rcases h.2 with ⟨rfl,rfl⟩ | ⟨g,cap,cur,rfl,_⟩
 ·omega
 ·exact ⟨_,_,rfl⟩
theorem CRep.far_row {w w2 : World} {base g rb cap : Nat} {qs : List PQ} {n : Nat} (h : CRep w base g rb cap qs) (hg : w.grownBy w2 (Value.slice (some ⟨rb,0,none⟩) n cap).ownBlock) : Blk w2 g 127 #[.slice (some ⟨rb,0,none⟩) qs.length cap] :=
 h.blk.grown hg (by intro e; injection e with e; exact h.rb_ne e)
theorem CRep.pushed {w w2 : World} {base g rb cap rb2 c2 : Nat} {qs : List PQ} {k : Int} (h : CRep w base g rb cap qs) (hg : w.grownBy w2 (Value.slice (some ⟨rb,0,none⟩) qs.length cap).ownBlock)
 (hr : w2.ownsRow base 124 3 (.slice (some ⟨rb2,0,none⟩) (qs.length + 1) c2) (qs.length + 1) (qcs qs ++ [.int .i64 k,.int .i64 0,.map none])) :
 CRep (w2.setCell ⟨g,0,none⟩ (.slice (some ⟨rb2,0,none⟩) (qs.length + 1) c2)) base g rb2 c2 (⟨⟨k,0,[]⟩,none⟩ :: qs) /\ Tch base cObj w (w2.setCell ⟨g,0,none⟩ (.slice (some ⟨rb2,0,none⟩) (qs.length + 1) c2)):=by
 have hk2:=h.far_row hg
 obtain ⟨cur,hcur⟩:=h.row_obj
 have T1 : Tch base cObj w w2:=Tch.of_grown hg h.rb_ge hcur (.inr rfl)
 refine ⟨⟨h.hg,hk2.set_ 0 _,?_,?_⟩,T1.set hk2 h.hg (.inl rfl) 0 _⟩
 ·refine World.ownsRow.kept (row:=some g) hr (only_setCell (p:=⟨g,0,none⟩) (World.grownBy.refl _ (some g)) (.inl rfl) _) (.inr ?_)
  intro e
  obtain ⟨cur2,hcur2⟩:=Go.Proofs.YtbnppjmmlfncmaaGreatDoor.row_obj hr e
  unfold Blk at hk2
  rw [hk2] at hcur2
  cases hcur2
 ·refine ⟨fun b hb => (by cases hb),rfl,?_⟩
  refine h.maps.keep fun _ _ b _ hb => ?_
  have hne:=h.map_ne hb
  refine (Below.heap_setCell w2 ⟨g,0,none⟩ _ b hne.1).trans (hg.block b ?_ ?_)
  ·obtain ⟨es,c,hb⟩:=hb
   exact (Array.getElem?_eq_some_iff.1 hb).1
  ·intro e
   injection e with e
   exact hne.2 e
theorem CRep.set_lastX {w : World} {base g rb cap b : Nat} {q : PQ} {r : List PQ} {x : Ev} (h : CRep w base g rb cap (q :: r)) (hX : EvAt w b x) :
 CRep (w.setCell ⟨rb,r.length * 3 + 1,none⟩ (.int .i64 x.k)) base g rb cap (⟨{ q.p with last:=x.k },q.m⟩ :: r) /\ Tch base cObj w (w.setCell ⟨rb,r.length * 3 + 1,none⟩ (.int .i64 x.k)) /\
 EvAt (w.setCell ⟨rb,r.length * 3 + 1,none⟩ (.int .i64 x.k)) b x :=
 ⟨h.set_last _,h.touch _ _,hX.of_c (h.touch _ _)⟩
section
variable (w : World) (base g rb cap : Nat) (q : PQ) (r : List PQ) (x : Ev)
set_option maxHeartbeats 4000000 in
theorem step_open (h : CRep w base g rb cap (q :: r)) (hl : r.length <= 6) (hw : Nm.StdW w) (hs : x.t.size <= 140737488355328) (hf : formedB x = true) (hn : contB q.p.kind q.p.last x.k (emptyT x.t) = true) (hk : opensK x.k = true) (h6 : ¬ 6 <= r.length) :
 Calls Tryz.prog 45 #[.pointer (some ⟨g,0,none⟩),evV x] w (SPost w base g (ptsOf (q :: r)) x):=by
 have hne : endsK x.k = false:=opens_not_ends' hk
 have hE : stepE (ptsOf (q :: r)) x = 0:=by rw [ptsOf_cons]; simp only [stepE]; rw [if_neg (by rw [hf,hn]; decide),if_neg (by rw [hne]; decide),if_pos hk,if_neg (by rw [ptsOf_len]; exact h6)]
 have hS : stepS (ptsOf (q :: r)) x = ptsOf (⟨⟨x.k,0,[]⟩,none⟩ :: ⟨{ q.p with last:=x.k },q.m⟩ :: r):=by
  unfold stepS; rw [hE,if_pos rfl,ptsOf_cons]; simp only [goS]; rw [if_neg (by rw [hne]; decide),if_pos hk]; rfl
 unfold SPost
 rw [hE,hS]
 clear hE hS hne
 have hF:=fun w' h => @formedV x w' h hs
 have hN:=fun w' h => @continuesV base g rb cap q r x w' h
 have hD : ∀ w',CRep w' base g rb cap (q :: r) -> Calls Tryz.prog 81 #[.pointer (some ⟨g,0,none⟩)] w' fun e w'' => e = .returned (.int .i64 r.length) /\ w'' = w':=by
  intro w' hw'
  refine (depth_any w' base g _ ⟨rb,cap,q :: r,rfl,hw'⟩ (by rw [ptsOf_len]; simp; omega)).mono ?_
  rintro e w'' ⟨rfl,rfl⟩
  rw [ptsOf_len,List.length_cons]
  exact ⟨by congr 2; omega,rfl⟩
 unfold evV
 have HF:=Lib.hid hf
 have HC:=Lib.hid hn
 have h6i : (r.length : Int) < 6:=by omega
 clear hf hn h6
 unfold opensK at hk
 rw [decide_eq_true_iff] at hk
 have hA:=h.alloc (.cells #[.int .i64 x.k,.string x.t,.string x.v] 67)
 have hX:=EvAt.new w x
 have hbel:=(Below.refl w.heap.size w).alloc (Nat.le_refl _) (.cells #[.int .i64 x.k,.string x.t,.string x.v] 67)
 obtain ⟨k,t,v⟩:=x
 simp only at *
 rcases hk with rfl | rfl | rfl
 all_goals
  have hc:=hA.c
  have hltA:=hA.lt
  have hlrA:=hA.rb_lt
  go_enter Tryz.func45,Tryz.ntmps45
  go_wp2_with fail
  go_quiet (fail)
  rename_i nq
  replace hA:=hA.drewN nq
  replace hX:=hX.drewN nq
  replace hbel:=below_drewN hbel nq
  generalize World.drewN _ nq = w1 at *
  have hw1:=hw.below hbel
  have x0:=hX.c0
  have x1:=hX.c1
  have x2:=hX.c2
  go_wp2_with (first
   | (go_at_call 78; refine (hF _ hw1).mono ?_; rintro e w2 ⟨rfl,hb2⟩; rw [HF.out]; have hA2:=hA.below hb2; have hX2:=hX.below hb2; have y0:=hX2.c0; have y1:=hX2.c1; have y2:=hX2.c2)
   | (go_at_call 79; refine (hN _ hA2).mono ?_; rintro e w3 ⟨rfl,hb3⟩; rw [HC.out]; have hA3:=hA2.below hb3; have hX3:=hX2.below hb3; have z0:=hX3.c0; have fz:=hA3.frz (r.length * 3 + 1); have lc:=hA3.c1; have lr:=hA3.rb_lt)
   | (go_at_call 81; refine (hD _ hA3).mono ?_; rintro e w4 ⟨rfl,rfl⟩))
  obtain ⟨hA5,hT5,hX5⟩:=hA3.set_lastX hX3
  simp only at hA5 hT5 hX5
  generalize w4.setCell _ _ = w5 at *
  have d0:=hX5.c0
  have dc:=hA5.c
  have gl:=hA5.lt
  have el:=Blk.lt hX5
  have hbs : base <= w5.heap.size:=by have:=hA5.hg; have:=hA5.lt; omega
  have h63 : (r.length + 1) + 1 <= maxLen:=by simp only [maxLen]; omega
  have h24 : ((r.length + 1) + 1) * 24 <= 140737488355328:=by omega
  have hrow:=hA5.drew.row
  go_region_law ((refine step_appG (by rfl) (.tmp 51) (.tmp 55) 125 (by rfl) base 124 _ 3 24 Tryz.underlying125 Tryz.infoPart (by rfl) (by decide) (.slice (some ⟨rb,0,none⟩) (r.length + 1) cap) (r.length + 1) _ [.int .i64 _,.int .i64 0,.map none] (by rfl) (by exact World.ownsRow.alloc hrow _) (by simp [Value.oneCell']) ⟨w5.heap.size,0,none⟩ 1 1 (by rfl) (by rfl) (by exact cellsOf3 w5.drew _ _ _ _) h63 h24 (by simp; omega) ?_; intro v2 w6 hown hg6; obtain ⟨rb2,c2,rfl⟩:=rowN_shape hown (Nat.succ_pos _); have hk6:=(hA5.drew.alloc (.cells #[.int .i64 _,.int .i64 0,.map none] 124)).far_row hg6; have ec0:=hk6.cell 0; have ef0:=hk6.frozen 0; have el0:=hk6.lt))
  all_goals
   go_wp2
   go_ret
   obtain ⟨r1,r2⟩:=(hA5.drew.alloc (.cells #[.int .i64 _,.int .i64 0,.map none] 124)).pushed hg6 hown
   exact ⟨rfl,⟨rb2,c2,_,rfl,r1⟩,((((((Tch.of_below hbel).trans (Tch.of_below hb2)).trans (Tch.of_below hb3)).trans hT5).drew).alloc _).trans r2⟩
theorem step_rep (h : CRep w base g rb cap (q :: r)) (hl : r.length <= 6) (hw : Nm.StdW w) (hs : x.t.size <= 140737488355328) :
 Calls Tryz.prog 45 #[.pointer (some ⟨g,0,none⟩),evV x] w (SPost w base g (ptsOf (q :: r)) x):=by
 cases hf : formedB x with
 | false => exact step_bad w base g rb cap q r x h hl hw hs (.inl hf)
 | true =>
  cases hn : contB q.p.kind q.p.last x.k (emptyT x.t) with
  | false => exact step_bad w base g rb cap q r x h hl hw hs (.inr hn)
  | true =>
   by_cases h1 : endsK x.k = true
   ·exact step_close w base g rb cap q r x h hl hw hs hf hn h1
   by_cases h2 : opensK x.k = true
   ·by_cases h6 : 6 <= r.length
    ·exact step_deep w base g rb cap q r x h hl hw hs hf hn h2 h6
    ·exact step_open w base g rb cap q r x h hl hw hs hf hn h2 h6
   by_cases h3 : x.k = 8 \/ x.k = 11
   ·exact step_key w base g rb cap q r x h hl hw hs hf hn h3
   ·refine step_plain w base g rb cap q r x h hl hw hs hf hn ?_
    unfold endsK at h1
    unfold opensK at h2
    rw [decide_eq_true_iff] at h1 h2
    unfold formedB bareK at hf
    repeat' split at hf
    all_goals first
     | omega
     | (exfalso; exact absurd hf (by decide))
     | (rename_i hb; rw [decide_eq_true_iff] at hb; omega)
end
theorem estep_any (w : World) (base g : Nat) (st : List Pt) (x : Ev) (h : CAt w base g st) (hg : Good st) (hw : Nm.StdW w) (hs : x.t.size <= 140737488355328) :
 Calls Tryz.prog 45 #[.pointer (some ⟨g,0,none⟩),evV x] w (SPost w base g st x):=by
 obtain ⟨rb,cap,qs,rfl,h⟩:=h
 cases qs with
 | nil => exact hg.1.elim
 | cons q r => exact step_rep w base g rb cap q r x h (by have:=hg.2; rw [ptsOf_cons,List.length_cons,ptsOf_len] at this; omega) hw hs
def ERead (w : World) (v : Value) (xs : List Ev) : Prop :=
 ∃ A c,v = .slice A xs.length c /\ xs.length <= c /\ c <= maxLen /\ (0 < xs.length -> ∃ b o : Nat,A = some ⟨b,o,none⟩ /\ ∀ j (h : j < xs.length),
  w.cell? ⟨b,o + j * 3,none⟩ = some (.int .i64 (xs[j]).k) /\ w.cell? ⟨b,o + j * 3 + 1,none⟩ = some (.string (xs[j]).t) /\ w.cell? ⟨b,o + j * 3 + 2,none⟩ = some (.string (xs[j]).v))
theorem ERead.below {w w' : World} {v : Value} {xs : List Ev} (h : ERead w v xs) (hb : Below w.heap.size w w') : ERead w' v xs:=by
 obtain ⟨A,c,rfl,h1,h2,h3⟩:=h
 refine ⟨A,c,rfl,h1,h2,fun hp => ?_⟩
 obtain ⟨b,o,rfl,hc⟩:=h3 hp
 refine ⟨b,o,rfl,fun j hj => ?_⟩
 obtain ⟨c0,c1,c2⟩:=hc j hj
 exact ⟨(hb.cell (cell_lt c0)).trans c0,(hb.cell (cell_lt c1)).trans c1,(hb.cell (cell_lt c2)).trans c2⟩
theorem ERead.take {w : World} {A : Option Addr} {n c : Nat} {xs : List Ev} (h : ERead w (.slice A n c) xs) {k : Nat} (hk : k <= xs.length) : ERead w (.slice A k c) (xs.take k):=by
 obtain ⟨A',c',hv,h1,h2,h3⟩:=h
 injection hv with e1 e2 e3
 subst e1 e2 e3
 have hl : (xs.take k).length = k:=by rw [List.length_take,Nat.min_eq_left hk]
 refine ⟨A,c,by rw [hl],by omega,h2,fun hp => ?_⟩
 obtain ⟨b,o,rfl,hc⟩:=h3 (by omega)
 refine ⟨b,o,rfl,fun j hj => ?_⟩
 rw [List.getElem_take]
 exact hc j (by omega)
def WEnd (p : Nat × Int) : Ending:=.returned (.tuple #[.int .i64 p.1,.int .i64 p.2])
open Go.RowKit
def nV (n : Nat) : Value:=.int .i64 (n : Int)
theorem row_shapeL {w : World} {base : Nat} {e : TypeId} {v : Value} {xs : List Value} {n : Nat} (h : ORow w base e v xs) (hn : xs.length = n) : ∃ A cap,v = .slice A n cap:=by subst hn; exact h.shape
theorem row_blockL {w : World} {base : Nat} {e : TypeId} {A : Option Addr} {n cap : Nat} {xs : List Value} (h : ORow w base e (.slice A n cap) xs) (hn : 0 < xs.length) : ∃ r,A = some ⟨r,0,none⟩:=by
 rcases h.2 with ⟨_,h0⟩ | ⟨g,c,cur,hv,_⟩
 ·omega
 ·injection hv with h1 _ _
  exact ⟨g,h1⟩
theorem rowL_of {w : World} {base : Nat} {e : TypeId} {v : Value} {xs : List Value} {n : Nat} (h : ORow w base e v xs) (hn : xs.length = n) : w.ownsRow base e 1 v n xs:=by
 have:=h
 unfold ORow at this
 rw [hn] at this
 exact this
theorem rowL_to {w : World} {base : Nat} {e : TypeId} {v : Value} {xs : List Value} {n : Nat} (h : w.ownsRow base e 1 v n xs) (hn : xs.length = n) : ORow w base e v xs:=by
 unfold ORow
 rw [hn]
 exact h
theorem nrev_len (S : List Nat) : (S.reverse.map nV).length = S.length:=by simp
theorem nrev_cons (p : Nat) (S : List Nat) : (p :: S).reverse.map nV = S.reverse.map nV ++ [nV p]:=by simp
theorem nrow_pop {w : World} {base r n cap p : Nat} {S : List Nat} (h : ORow w base 3 (.slice (some ⟨r,0,none⟩) n cap) ((p :: S).reverse.map nV)) (hn : n = S.length + 1) : ORow w base 3 (.slice (some ⟨r,0,none⟩) S.length cap) (S.reverse.map nV):=by
 subst hn
 have h1:=rowN_cut (rowL_of h (by simp)) (m:=S.length) (by omega)
 rw [nrev_cons,Nat.mul_one,List.take_append_of_le_length (by simp),List.take_of_length_le (by simp)] at h1
 exact rowL_to h1 (by simp)
def AtEnd (l : List Ev) : Ending:=match atL l with
 | [] => .returned (.tuple #[.int .i64 (-1),.int .i64 0])
 | p :: ps => .returned (.tuple #[.int .i64 p,.int .i64 ((ps.length : Int) + 1)])
theorem atEnd_nil {l : List Ev} (h : atL l = []) : AtEnd l = .returned (.tuple #[.int .i64 (-1),.int .i64 0]):=by unfold AtEnd; rw [h]
theorem atEnd_cons {l : List Ev} {p : Nat} {ps : List Nat} (h : atL l = p :: ps) : AtEnd l = .returned (.tuple #[.int .i64 p,.int .i64 ((ps.length : Int) + 1)]):=by unfold AtEnd; rw [h]
set_option maxHeartbeats 8000000 in
theorem at_any (w : World) (v : Value) (xs : List Ev) (hv : ERead w v xs) (hn : xs.length <= 100000) :
 Calls Tryz.prog 64 #[v] w fun e w' => e = AtEnd xs /\ Below w.heap.size w w':=by
 obtain ⟨A,c,rfl,_,_,hr⟩:=hv
 go_enter Tryz.func64,Tryz.ntmps64
 go_wp2_with fail
 go_loopw [4,5] (fun op i wr => ∃ k : Nat,k <= xs.length /\ i = .int .i64 k /\ ORow wr w.heap.size 3 op ((atL (xs.take k)).reverse.map nV) /\ Hid (Below w.heap.size w wr)) (fun _ i _ => xs.length - (intOf i).toNat)
 case atStart => exact ⟨0,Nat.zero_le _,rfl,ORow.nil _ _ _,Lib.hid (Below.refl _ _)⟩
 case round =>
  obtain ⟨k,hk,rfl,hown,HB⟩:=hrel
  have hbs:=HB.out.size
  by_cases hlt : k < xs.length
  ·obtain ⟨bb,oo,rfl,hc⟩:=hr (by omega)
   obtain ⟨h1,_,_⟩:=hc k hlt
   have g1:=(HB.out.cell (cell_lt h1)).trans h1
   have ht:=atL_take xs k hlt
   have hSl : (atL (xs.take k)).length <= k:=by have:=atL_len (xs.take k); rw [List.length_take] at this; omega
   clear hc hr h1
   generalize (xs[k]).k = xk at *
   obtain ⟨S,hS⟩ : ∃ S,atL (xs.take k) = S:=⟨_,rfl⟩
   rw [hS] at hown ht hSl
   have hlti : (k : Int) < xs.length:=by omega
   cases ho : opensK xk with
   | true =>
    have hst : atL (xs.take (k + 1)) = k :: S:=by rw [ht]; unfold atStep; rw [if_pos ho]
    have HS:=Lib.hid hst
    unfold opensK at ho
    rw [decide_eq_true_iff] at ho
    have h63 : (S.reverse.map nV).length + 1 <= maxLen:=by rw [nrev_len]; simp only [maxLen]; omega
    have h8 : ((S.reverse.map nV).length + 1) * 8 <= 140737488355328:=by rw [nrev_len]; omega
    clear hS ht hst
    rcases ho with rfl | rfl | rfl
    all_goals
     go_wp2_with (first
      | (at_builtin; refine wp_app1b rfl _ _ 27 rfl w.heap.size 3 (.int .i64 0) 8 Tryz.underlying27 Tryz.info3 rfl _ _ _ rfl (by exact hown) rfl _ rfl h63 h8 hbs ?_; intro v1 w1 hown1 hb1))
     go_roundw
     case rel => exact ⟨k + 1,hlt,by go_num,by rw [HS.out,nrev_cons]; exact hown1,Lib.hid (HB.out.trans hb1)⟩
     case measure => first | (simp [intOf]; done) | (simp [intOf]; omega)
   | false =>
    cases he : endsK xk with
    | true =>
     have hst : atL (xs.take (k + 1)) = S.tail:=by rw [ht]; unfold atStep; rw [if_neg (by rw [ho]; decide),if_pos he]
     have HS:=Lib.hid hst
     unfold endsK at he
     rw [decide_eq_true_iff] at he
     clear hS ht hst ho
     match S with
     | [] =>
      obtain ⟨A1,c1,rfl⟩:=row_shapeL hown (n:=0) rfl
      rcases he with rfl | rfl | rfl
      all_goals
       go_wp2_with fail
       go_roundw
       case rel => exact ⟨k + 1,hlt,by go_num,by rw [HS.out]; exact hown,HB⟩
       case measure => first | (simp [intOf]; done) | (simp [intOf]; omega)
     | p :: S =>
      obtain ⟨A1,c1,rfl⟩:=row_shapeL hown (n:=S.length + 1) (by simp)
      obtain ⟨r1,rfl⟩:=row_blockL hown (by simp)
      obtain ⟨_,_,hcap,hcm,_,_,_⟩:=rowN_block (rowL_of hown (n:=S.length + 1) (by simp))
      have hcm2 : c1 <= 9223372036854775807:=by simpa [maxLen] using hcm
      have hpop:=nrow_pop hown rfl
      clear hcm
      rcases he with rfl | rfl | rfl
      all_goals
       go_wp2_with fail
       go_roundw
       case rel => exact ⟨k + 1,hlt,by go_num,by rw [HS.out]; exact hpop,HB⟩
       case measure => first | (simp [intOf]; done) | (simp [intOf]; omega)
    | false =>
     have hst : atL (xs.take (k + 1)) = S:=by rw [ht]; unfold atStep; rw [if_neg (by rw [ho]; decide),if_neg (by rw [he]; decide)]
     have HS:=Lib.hid hst
     unfold endsK at he
     unfold opensK at ho
     rw [decide_eq_false_iff_not] at he ho
     have d5 : (xk == 5) = false:=ne_beq (by omega)
     have d6 : (xk == 6) = false:=ne_beq (by omega)
     have d7 : (xk == 7) = false:=ne_beq (by omega)
     have d9 : (xk == 9) = false:=ne_beq (by omega)
     have d10 : (xk == 10) = false:=ne_beq (by omega)
     have d12 : (xk == 12) = false:=ne_beq (by omega)
     clear hS ht hst ho he
     go_wp2_with fail
     go_roundw
     case rel => exact ⟨k + 1,hlt,by go_num,by rw [HS.out]; exact hown,HB⟩
     case measure => first | (simp [intOf]; done) | (simp [intOf]; omega)
  ·have hke : k = xs.length:=by omega
   rw [hke,List.take_of_length_le (Nat.le_refl _)] at hown
   obtain ⟨S,hS⟩ : ∃ S,atL xs = S:=⟨_,rfl⟩
   rw [hS] at hown
   have HS:=Lib.hid hS
   have hSl:=atL_len xs
   rw [hS] at hSl
   clear hS
   have hlti : ¬ (k : Int) < xs.length:=by omega
   match S with
   | [] =>
    obtain ⟨A1,c1,rfl⟩:=row_shapeL hown (n:=0) rfl
    go_wp2_with fail
    go_ret2
    exact ⟨by rw [atEnd_nil HS.out]; rfl,HB.out⟩
   | p :: S =>
    obtain ⟨A1,c1,rfl⟩:=row_shapeL hown (n:=S.length + 1) (by simp)
    obtain ⟨r1,rfl⟩:=row_blockL hown (by simp)
    have hcl : wr.cell? ⟨r1,S.length,none⟩ = some (.int .i64 p):=by
     rw [rowN_cell (rowL_of hown (n:=S.length + 1) (by simp)) (by omega),nrev_cons,List.getElem?_append_right (by simp)]
     simp [nV]
    have hsl : S.length + 1 <= 100000:=by simp at hSl; omega
    go_wp2_with fail
    go_ret2
    exact ⟨by rw [atEnd_cons HS.out]; rfl,HB.out⟩
def evc (x : Ev) : List Value:=[.int .i64 x.k,.string x.t,.string x.v]
def evcs (l : List Ev) : List Value:=l.flatMap evc
theorem evcs_get : ∀ (l : List Ev) (k : Nat) (h : k < l.length) (j : Nat) (_ : j < 3),(evcs l)[k * 3 + j]? = (evc l[k])[j]?
 | x :: l,0,_,j,hj => by
  simp only [evcs,List.flatMap_cons]
  rw [List.getElem?_append_left (by simp [evc]; omega)]
  simp
 | x :: l,k + 1,h,j,hj => by
  have ih:=evcs_get l k (by simpa using h) j hj
  simp only [evcs,List.flatMap_cons] at ih ⊢
  rw [List.getElem?_append_right (by simp [evc]; omega),show (k + 1) * 3 + j - (evc x).length = k * 3 + j by simp [evc]; omega,ih]
  simp
theorem evcs_snoc (l : List Ev) (x : Ev) : evcs (l ++ [x]) = evcs l ++ evc x:=by simp [evcs]
theorem Tryz.infoEv : (Tryz.prog.info? 67).map (fun i => (i.zero,i.size,i.bytes)) = some (some (.agg #[.int .i64 0,.string ⟨#[]⟩,.string ⟨#[]⟩]),3,40):=by kernel_rfl
def ERow (w : World) (base : Nat) (v : Value) (l : List Ev) : Prop:=w.ownsRow base 67 3 v l.length (evcs l)
theorem ERow.nil (w : World) (base : Nat) : ERow w base (.slice none 0 0) []:=World.ownsRow_nil w base _ 3
theorem ERow.read {w : World} {base : Nat} {v : Value} {l : List Ev} (h : ERow w base v l) : ERead w v l:=by
 have hr:=h
 unfold ERow at hr
 rcases hr.2 with ⟨rfl,h0⟩ | ⟨r,c,cur,rfl,hg,hh,hnc,hm,hs,ht⟩
 ·exact ⟨none,0,by rw [h0],by omega,Nat.zero_le _,fun hp => by omega⟩
 ·refine ⟨some ⟨r,0,none⟩,c,rfl,hnc,hm,fun _ => ⟨r,0,rfl,fun j hj => ?_⟩⟩
  have hat : ∀ i,i < 3 -> w.cell? ⟨r,j * 3 + i,none⟩ = (evc l[j])[i]?:=by
   intro i hi
   rw [Blk.cell hh,<- evcs_get l j hj i hi,<- ht,List.getElem?_take_of_lt (by omega),Array.getElem?_toList]
  rw [Nat.zero_add]
  have h0:=hat 0 (by omega)
  have h1:=hat 1 (by omega)
  have h2:=hat 2 (by omega)
  exact ⟨h0,h1,h2⟩
theorem ERow.below {w w' : World} {base : Nat} {v : Value} {l : List Ev} (h : ERow w base v l) (hb : Below w.heap.size w w') : ERow w' base v l :=
 row_tch (base:=base) (p:=fun _ => False) h (Tch.of_below hb) (fun _ _ h => h)
theorem ERow.of_c {w w' : World} {base : Nat} {v : Value} {l : List Ev} (h : ERow w base v l) (ht : Tch base cObj w w') : ERow w' base v l :=
 row_tch h ht (fun _ _ => by simp only [cObj]; decide)
theorem ERow.shape {w : World} {base : Nat} {v : Value} {l : List Ev} (h : ERow w base v l) : ∃ A c,v = .slice A l.length c:=by
 rcases h.2 with ⟨rfl,h0⟩ | ⟨g,cap,cur,rfl,_⟩
 ·exact ⟨_,_,by rw [h0]⟩
 ·exact ⟨_,_,rfl⟩
theorem ERow.alloc {w : World} {base : Nat} {v : Value} {l : List Ev} (h : ERow w base v l) (o : Obj) : ERow (w.alloc o) base v l:=World.ownsRow.alloc h o
end Go.Proofs.YtbnppjmmlfncmaaGreatDoor
