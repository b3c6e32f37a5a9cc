/-
  events: formed: whether Text and Val are allowed for a kind.
  tree: the function that walk hands back, and the closure that takes a kid: by induction on the node.
-/
import Derived.Test.YtbnppjmmlfncmaaGreatDoorIrA12
import Derived.Test.YtbnppjmmlfncmaaGreatDoorIrA01
import Derived.Test.YtbnppjmmlfncmaaGreatDoorIrA07
import Derived.Test.YtbnppjmmlfncmaaGreatDoorIrA10
import Derived.RangeFuncBound
import Derived.Shelf.Abstract
import Derived.Shelf.RegionOpen
import Derived.OwnWalkIn
import Derived.TacticsInMore
import Derived.LoopNIn
import Derived.LoopIn
set_option maxRecDepth 100000
set_option linter.unusedSectionVars false
namespace Go.Proofs.YtbnppjmmlfncmaaGreatDoor
open Go.RowKit
variable [Fo]
theorem emptyT_nil : emptyT ⟨#[]⟩ = true:=rfl
theorem emptyT_no {s : ByteArray} (h : ¬ s.size = 0) : emptyT s = false:=by
 unfold emptyT
 rw [decide_eq_false_iff_not]
 intro e
 apply h
 have:=congrArg List.length e
 simpa using this
theorem str_nil {s : ByteArray} (h : s.size = 0) : s = ⟨#[]⟩:=ByteArray.ext (Array.eq_empty_of_size_eq_zero h)
def evV (x : Ev) : Value:=.agg #[.int .i64 x.k,.string x.t,.string x.v]
def EvAt (w : World) (b : Nat) (x : Ev) : Prop:=Blk w b 67 #[.int .i64 x.k,.string x.t,.string x.v]
theorem EvAt.new (w : World) (x : Ev) : EvAt (w.alloc (.cells #[.int .i64 x.k,.string x.t,.string x.v] 67)) w.heap.size x:=Blk.new w _ _
theorem EvAt.below {w w' : World} {b : Nat} {x : Ev} (h : EvAt w b x) (hb : Below w.heap.size w w') : EvAt w' b x:=Blk.below h hb (Blk.lt h)
theorem EvAt.drewN {w : World} {b : Nat} {x : Ev} (h : EvAt w b x) (n : Nat) : EvAt (w.drewN n) b x:=h
theorem EvAt.c0 {w : World} {b : Nat} {x : Ev} (h : EvAt w b x) : w.cell? ⟨b,0,none⟩ = some (.int .i64 x.k):=Blk.cell h 0
theorem EvAt.c1 {w : World} {b : Nat} {x : Ev} (h : EvAt w b x) : w.cell? ⟨b,1,none⟩ = some (.string x.t):=Blk.cell h 1
theorem EvAt.c2 {w : World} {b : Nat} {x : Ev} (h : EvAt w b x) : w.cell? ⟨b,2,none⟩ = some (.string x.v):=Blk.cell h 2
def FPost (x : Ev) (w : World) (e : Ending) (w' : World) : Prop:=e = .returned (.bool (formedB x)) /\ Below w.heap.size w w'
section
variable (x : Ev) (w : World)
set_option maxHeartbeats 4000000 in
theorem formed_bare (h : bareK x.k = true) : Calls Tryz.prog 78 #[evV x] w (FPost x w):=by
 have hF : formedB x = (emptyT x.t && emptyT x.v):=by unfold formedB; rw [if_pos h]
 unfold FPost evV
 rw [hF]
 clear hF
 obtain ⟨k,t,v⟩:=x
 have hbel:=(Below.refl w.heap.size w).alloc (Nat.le_refl _) (.cells #[.int .i64 k,.string t,.string v] 67)
 simp only at h ⊢
 unfold bareK at h
 rw [decide_eq_true_iff] at h
 by_cases ht : t.size = 0
 ·obtain rfl:=str_nil ht
  rw [emptyT_nil,Bool.true_and]
  by_cases hv : v.size = 0
  ·obtain rfl:=str_nil hv
   rw [emptyT_nil]
   rcases h with rfl | rfl | rfl | rfl | rfl | rfl
   all_goals
    go_enter Tryz.func78,Tryz.ntmps78
    go_wp2
    go_ret
    exact ⟨rfl,hbel⟩
  ·have n1:=str_ne hv
   have n2:=str_ne2 hv
   rw [emptyT_no hv]
   rcases h with rfl | rfl | rfl | rfl | rfl | rfl
   all_goals
    go_enter Tryz.func78,Tryz.ntmps78
    go_wp2
    go_ret
    exact ⟨rfl,hbel⟩
 ·have n1:=str_ne ht
  have n2:=str_ne2 ht
  rw [emptyT_no ht,Bool.false_and]
  rcases h with rfl | rfl | rfl | rfl | rfl | rfl
  all_goals
   go_enter Tryz.func78,Tryz.ntmps78
   go_wp2
   go_ret
   exact ⟨rfl,hbel⟩
set_option maxHeartbeats 4000000 in
theorem formed_bool (h : x.k = 2) : Calls Tryz.prog 78 #[evV x] w (FPost x w):=by
 have hF : formedB x = (emptyT x.v && boolL x.t.data.toList):=by unfold formedB; rw [h,if_neg (by decide),if_pos rfl]
 unfold FPost evV
 rw [hF]
 clear hF
 obtain ⟨k,t,v⟩:=x
 have hbel:=(Below.refl w.heap.size w).alloc (Nat.le_refl _) (.cells #[.int .i64 2,.string t,.string v] 67)
 simp only at h ⊢
 subst h
 by_cases hv : v.size = 0
 ·obtain rfl:=str_nil hv
  rw [emptyT_nil,Bool.true_and]
  by_cases h1 : t = ⟨#[116,114,117,101]⟩
  ·subst h1
   go_enter Tryz.func78,Tryz.ntmps78
   go_wp2
   go_ret
   exact ⟨rfl,hbel⟩
  ·by_cases h2 : t = ⟨#[102,97,108,115,101]⟩
   ·subst h2
    go_enter Tryz.func78,Tryz.ntmps78
    go_wp2
    go_ret
    exact ⟨rfl,hbel⟩
   ·have e1 : boolL t.data.toList = false:=by
     unfold boolL
     rw [decide_eq_false (fun e => h1 (ByteArray.ext (by have:=congrArg List.toArray e; simpa using this))),decide_eq_false (fun e => h2 (ByteArray.ext (by have:=congrArg List.toArray e; simpa using this)))]
     rfl
    rw [e1]
    obtain ⟨m1,m2⟩:=str_diff h1
    obtain ⟨m3,m4⟩:=str_diff h2
    simp at m1 m2 m3 m4
    clear h1 h2 e1
    go_enter Tryz.func78,Tryz.ntmps78
    go_wp2
    go_ret
    exact ⟨rfl,hbel⟩
 ·have n1:=str_ne hv
  have n2:=str_ne2 hv
  rw [emptyT_no hv,Bool.false_and]
  go_enter Tryz.func78,Tryz.ntmps78
  go_wp2
  go_ret
  exact ⟨rfl,hbel⟩
set_option maxHeartbeats 4000000 in
theorem formed_num (h : x.k = 3) (hw : Nm.StdW w) (hs : x.t.size <= 140737488355328) : Calls Tryz.prog 78 #[evV x] w (FPost x w):=by
 have hF : formedB x = (emptyT x.v && normL x.t.data.toList):=by unfold formedB; rw [h,if_neg (by decide),if_neg (by decide),if_pos rfl]
 unfold FPost evV
 rw [hF]
 clear hF
 obtain ⟨k,t,v⟩:=x
 have hbel:=(Below.refl w.heap.size w).alloc (Nat.le_refl _) (.cells #[.int .i64 3,.string t,.string v] 67)
 simp only at h hs ⊢
 subst h
 by_cases hv : v.size = 0
 ·obtain rfl:=str_nil hv
  rw [emptyT_nil,Bool.true_and]
  go_enter Tryz.func78,Tryz.ntmps78
  go_wp2_with (first
   | (go_at_call 112; refine (normal_any t _ (hw.below ((Below.refl w.heap.size w).alloc (Nat.le_refl _) _)) hs).mono ?_; rintro e w1 ⟨rfl,hb1⟩; replace hbel:=hbel.trans (hb1.mono hbel.size)))
  go_ret
  exact ⟨rfl,hbel⟩
 ·have n1:=str_ne hv
  have n2:=str_ne2 hv
  rw [emptyT_no hv,Bool.false_and]
  go_enter Tryz.func78,Tryz.ntmps78
  go_wp2
  go_ret
  exact ⟨rfl,hbel⟩
set_option maxHeartbeats 4000000 in
theorem formed_text (h : x.k = 4 \/ x.k = 8) : Calls Tryz.prog 78 #[evV x] w (FPost x w):=by
 have hF : formedB x = (emptyT x.v && validL x.t.data.toList):=by
  unfold formedB
  rw [if_neg (by unfold bareK; rw [decide_eq_true_iff]; omega),if_neg (by omega),if_neg (by omega),if_pos h]
 unfold FPost evV
 rw [hF]
 clear hF
 obtain ⟨k,t,v⟩:=x
 simp only at h ⊢
 rcases h with rfl | rfl
 case' inl => have hbel:=(Below.refl w.heap.size w).alloc (Nat.le_refl _) (.cells #[.int .i64 4,.string t,.string v] 67)
 case' inr => have hbel:=(Below.refl w.heap.size w).alloc (Nat.le_refl _) (.cells #[.int .i64 8,.string t,.string v] 67)
 all_goals
  by_cases hv : v.size = 0
  ·obtain rfl:=str_nil hv
   rw [emptyT_nil,Bool.true_and]
   go_enter Tryz.func78,Tryz.ntmps78
   go_wp2_with (first
    | (go_at_call 113; refine (evalid_any t _).mono ?_; rintro e w1 ⟨rfl,hb1⟩; replace hbel:=hbel.trans (hb1.mono hbel.size)))
   go_ret
   exact ⟨rfl,hbel⟩
  ·have n1:=str_ne hv
   have n2:=str_ne2 hv
   rw [emptyT_no hv,Bool.false_and]
   go_enter Tryz.func78,Tryz.ntmps78
   go_wp2
   go_ret
   exact ⟨rfl,hbel⟩
set_option maxHeartbeats 4000000 in
theorem formed_elem (h : x.k = 10) (hs : x.t.size <= 140737488355328) : Calls Tryz.prog 78 #[evV x] w (FPost x w):=by
 have hF : formedB x = (emptyT x.v && fullL x.t.data.toList):=by unfold formedB; rw [h,if_neg (by decide),if_neg (by decide),if_neg (by decide),if_neg (by decide),if_pos rfl]
 unfold FPost evV
 rw [hF]
 clear hF
 have hx:=EvAt.new w x
 obtain ⟨k,t,v⟩:=x
 have hbel:=(Below.refl w.heap.size w).alloc (Nat.le_refl _) (.cells #[.int .i64 10,.string t,.string v] 67)
 simp only at h hs hx ⊢
 subst h
 by_cases hv : v.size = 0
 ·obtain rfl:=str_nil hv
  rw [emptyT_nil,Bool.true_and]
  have hc1:=hx.c1
  go_enter Tryz.func78,Tryz.ntmps78
  go_wp2_with (first
   | (go_at_call 110; refine (named_any w.heap.size t _ hc1 hs).mono ?_; rintro e w1 ⟨rfl,hb1⟩; replace hbel:=hbel.trans (hb1.mono hbel.size)))
  go_ret
  exact ⟨rfl,hbel⟩
 ·have n1:=str_ne hv
  have n2:=str_ne2 hv
  rw [emptyT_no hv,Bool.false_and]
  go_enter Tryz.func78,Tryz.ntmps78
  go_wp2
  go_ret
  exact ⟨rfl,hbel⟩
set_option maxHeartbeats 4000000 in
theorem formed_attr (h : x.k = 11) (hs : x.t.size <= 140737488355328) : Calls Tryz.prog 78 #[evV x] w (FPost x w):=by
 have hF : formedB x = (validL x.v.data.toList && fullL x.t.data.toList):=by unfold formedB; rw [h,if_neg (by decide),if_neg (by decide),if_neg (by decide),if_neg (by decide),if_neg (by decide),if_pos rfl]
 unfold FPost evV
 rw [hF]
 clear hF
 have hx:=EvAt.new w x
 obtain ⟨k,t,v⟩:=x
 have hbel:=(Below.refl w.heap.size w).alloc (Nat.le_refl _) (.cells #[.int .i64 11,.string t,.string v] 67)
 simp only at h hs hx ⊢
 subst h
 cases hv : validL v.data.toList with
 | true =>
  have HV:=Lib.hid hv
  clear hv
  rw [Bool.true_and]
  go_enter Tryz.func78,Tryz.ntmps78
  go_wp2_with (first
   | (go_at_call 113; refine (evalid_any v _).mono ?_; rintro e w1 ⟨rfl,hb1⟩; rw [HV.out]; replace hbel:=hbel.trans (hb1.mono hbel.size); have hc1:=(hx.below hb1).c1)
   | (go_at_call 110; refine (named_any w.heap.size t _ hc1 hs).mono ?_; rintro e w2 ⟨rfl,hb2⟩; replace hbel:=hbel.trans (hb2.mono hbel.size)))
  go_ret
  exact ⟨rfl,hbel⟩
 | false =>
  have HV:=Lib.hid hv
  clear hv
  rw [Bool.false_and]
  go_enter Tryz.func78,Tryz.ntmps78
  go_wp2_with (first
   | (go_at_call 113; refine (evalid_any v _).mono ?_; rintro e w1 ⟨rfl,hb1⟩; rw [HV.out]; replace hbel:=hbel.trans (hb1.mono hbel.size)))
  go_ret
  exact ⟨rfl,hbel⟩
set_option maxHeartbeats 4000000 in
theorem formed_other (h : bareK x.k = false /\ x.k ≠ 2 /\ x.k ≠ 3 /\ x.k ≠ 4 /\ x.k ≠ 8 /\ x.k ≠ 10 /\ x.k ≠ 11) : Calls Tryz.prog 78 #[evV x] w (FPost x w):=by
 obtain ⟨h1,h2,h3,h4,h8,h10,h11⟩:=h
 have hF : formedB x = false:=by unfold formedB; rw [h1,if_neg (by decide),if_neg h2,if_neg h3,if_neg (by omega),if_neg h10,if_neg h11]
 unfold FPost evV
 rw [hF]
 clear hF
 obtain ⟨k,t,v⟩:=x
 have hbel:=(Below.refl w.heap.size w).alloc (Nat.le_refl _) (.cells #[.int .i64 k,.string t,.string v] 67)
 simp only at h1 h2 h3 h4 h8 h10 h11 ⊢
 unfold bareK at h1
 rw [decide_eq_false_iff_not] at h1
 have d1 : (k == 1) = false:=by rw [beq_eq_false_iff_ne]; omega
 have d2 : (k == 2) = false:=by rw [beq_eq_false_iff_ne]; omega
 have d3 : (k == 3) = false:=by rw [beq_eq_false_iff_ne]; omega
 have d4 : (k == 4) = false:=by rw [beq_eq_false_iff_ne]; omega
 have d5 : (k == 5) = false:=by rw [beq_eq_false_iff_ne]; omega
 have d6 : (k == 6) = false:=by rw [beq_eq_false_iff_ne]; omega
 have d7 : (k == 7) = false:=by rw [beq_eq_false_iff_ne]; omega
 have d8 : (k == 8) = false:=by rw [beq_eq_false_iff_ne]; omega
 have d9 : (k == 9) = false:=by rw [beq_eq_false_iff_ne]; omega
 have d10 : (k == 10) = false:=by rw [beq_eq_false_iff_ne]; omega
 have d11 : (k == 11) = false:=by rw [beq_eq_false_iff_ne]; omega
 have d12 : (k == 12) = false:=by rw [beq_eq_false_iff_ne]; omega
 clear h1 h2 h3 h4 h8 h10 h11
 go_enter Tryz.func78,Tryz.ntmps78
 go_wp2
 go_ret
 exact ⟨rfl,hbel⟩
def NumW (k : Int) (w : World) : Prop:=k = 3 -> Nm.StdW w
theorem NumW.of {k : Int} {w : World} (h : Nm.StdW w) : NumW k w:=fun _ => h
theorem NumW.no {k : Int} {w : World} (h : k ≠ 3) : NumW k w:=fun e => absurd e h
theorem NumW.below {k : Int} {w w' : World} (h : NumW k w) (hb : Below w.heap.size w w') : NumW k w':=fun e => (h e).below hb
theorem NumW.drewN {k : Int} {w : World} (h : NumW k w) (n : Nat) : NumW k (w.drewN n):=fun e => (h e).drewN n
theorem formed_any (hw : NumW x.k w) (hs : x.t.size <= 140737488355328) : Calls Tryz.prog 78 #[evV x] w (FPost x w):=by
 cases hb : bareK x.k with
 | true => exact formed_bare x w hb
 | false =>
  by_cases h2 : x.k = 2
  ·exact formed_bool x w h2
  by_cases h3 : x.k = 3
  ·exact formed_num x w h3 (hw h3) hs
  by_cases h4 : x.k = 4 \/ x.k = 8
  ·exact formed_text x w h4
  by_cases h10 : x.k = 10
  ·exact formed_elem x w h10 hs
  by_cases h11 : x.k = 11
  ·exact formed_attr x w h11 hs
  ·exact formed_other x w ⟨hb,h2,h3,by omega,by omega,h10,h11⟩
end
end Go.Proofs.YtbnppjmmlfncmaaGreatDoor
namespace Go.Proofs.YtbnppjmmlfncmaaGreatDoor
open Go.RowKit Go.Maps Go.Shelf
attribute [local go_sem] Oper.semAt_some
def visA (n : Nd) (k : Nat) : Array Value:=#[evV ((visN n).getD k noneE)]
def cWalk : Obj -> Prop
 | .cells _ t _ => t = 24 \/ t = 128 \/ t = 4
 | _ => False
def tWalk : Obj -> Prop
 | .cells _ t _ => t = 4
 | .loop _ => True
 | .deferred _ => True
 | _ => False
theorem tWalk_bk (o : Obj) (h : isBk o = true) : tWalk o:=by cases o <;> simp_all [isBk,tWalk]
theorem cWalk_bk (o : Obj) (h : cWalk o) : isBk o = false:=by cases o <;> simp_all [isBk,cWalk]
section
variable {K : Nat -> Obj -> Prop} {W W' : World}
theorem Kept.set_same (h : Kept K W W') {g : Nat} {t : TypeId} {cs : Array Value} (hb : Blk W' g t cs) {i : Nat} {u : Value} (hs : cs.setIfInBounds i u = cs) : Kept K W (W'.setCell ⟨g,i,none⟩ u) :=
 ⟨by simpa [World.setCell] using h.size,fun k o ho hk => by
  by_cases e : k = g
  ·subst e
   have h1:=h.same k o ho hk
   have h2:=hb.set_ i u
   rw [hs] at h2
   unfold Blk at hb h2
   rw [hb] at h1
   cases h1
   exact h2
  ·exact (Below.heap_setCell W' ⟨g,i,none⟩ u k e).trans (h.same k o ho hk)⟩
theorem Kept.low {b0 B : Nat} {C : Obj -> Prop} (h : Kept K W W') (hK : ∀ k o,Needs C b0 B k o -> K k o) (hb : b0 <= W.heap.size) {k : Nat} (hk : k < b0) : W'.heap[k]? = W.heap[k]?:=by
 obtain ⟨o,ho⟩:=heap_some (w:=W) (k:=k) (by omega)
 rw [h.same k o ho (hK _ _ (.inl hk)),ho]
end
theorem tch_set {B : Nat} {T : Obj -> Prop} {W : World} {g : Nat} {t : TypeId} {cs : Array Value} (hb : Blk W g t cs) (hB : B <= g) (hT : T (.cells cs t (0,0))) (i : Nat) (u : Value) : Tch B T W (W.setCell ⟨g,i,none⟩ u) :=
 (Tch.refl B T W).set hb hB (fun h => h) hT i u
theorem kept_put_new {K : Nat -> Obj -> Prop} {W W' : World} (h : Kept K W W') {l : Nat} (hl : W.heap.size <= l) (o' : Obj) : Kept K W (W'.putObj l o') :=
 ⟨Nat.le_trans h.size (grownBy_putObj' W' l o').size,fun k o ho hk => (World.putObj_heap_other (by have:=(Array.getElem?_eq_some_iff.1 ho).1; omega)).trans (h.same k o ho hk)⟩
theorem callsIn_anyDepth {F : Fence} (hd : F.depth = none) {m m' : Nat} {P : Program} {f : FuncId} {args : Array Value} {w : World} {R : Ending -> World -> Prop}
 (h : CallsIn F m P f args w R) : CallsIn F m' P f args w R:=⟨h.1,fun cs _ => h.2 cs (room_of_none hd _)⟩
def Walk1 (n : Nd) : Prop:=∀ (m g b0 : Nat) (A : Option Addr) (c : Nat) (W : World),b0 <= W.heap.size -> b0 <= g -> NBox W g n A c -> NAt (fun b _ => b < b0) W n A c ->
 WalksAt cWalk tWalk Fence.wide m Tryz.prog 74 #[] #[.pointer (some ⟨g,0,none⟩)] (visA n) (visN n).length b0 W
set_option maxHeartbeats 2000000 in
theorem within_any (n : Nd) (ih : Walk1 n) (l B b0 off : Nat) (K : Nat -> Obj -> Prop) (J : Nat -> World -> Prop) (Jx : World -> Prop) (W : World) (hb : b0 <= B) (hB : B <= W.heap.size) (hK : ∀ k o,Needs cWalk b0 B k o -> K k o)
 (hJ : ∀ k A A',J k A -> Tch B tWalk A A' -> J k A') (hX : ∀ A A',Jx A -> Tch B tWalk A A' -> Jx A')
 (hY : ∀ m k W1,k < (visN n).length -> J (off + k) W1 -> YieldAt Fence.wide m Tryz.prog l #[evV ((visN n).getD k noneE)] W1 fun e W2 => Kept K W1 W2 /\ ((e = .returned (.bool true) /\ J (off + k + 1) W2) \/ (e = .returned (.bool false) /\ Jx W2)))
 (vb : Nat) (hv : Blk W vb 128 #[.func (.yield l) #[] #[]]) (k : Int) (t v : ByteArray) (A : Option Addr) (len c : Nat) (hn : n.k = k /\ n.t = t /\ n.v = v /\ n.kids.length = len) (hA : NAt (fun b _ => b < b0) W n A c) (h0 : J off W) :
 CallsIn Fence.wide 3 Tryz.prog 76 #[.agg #[.int .i64 k,.string t,.string v,.slice A len c],.pointer (some ⟨vb,0,none⟩)] W fun e W2 =>
  Kept K W W2 /\ ((e = .returned (.bool true) /\ J (off + (visN n).length) W2) \/ (e = .returned (.bool false) /\ Jx W2)):=by
 have hvl:=hv.lt
 refine callsIn_of_wp_marks Tryz.func76 rfl trivial ?_ rfl
 simp only [Tryz.ntmps76,List.size_toArray,List.length_cons,List.length_nil,Nat.reduceAdd,Nat.reduceSub,Array.replicate_succ,Array.replicate_zero,List.push_toArray,List.append_toArray,List.nil_append,List.cons_append]
 gi_wp2_with (first
  | (refine ⟨trivial,?_⟩; gi_at_call 44; refine (callsIn_wide.2 (twalk_any k t v A len c _)).mono ?_; rintro e w' ⟨rfl,rfl⟩))
 obtain ⟨W3,hW3⟩ : ∃ W3,((W.alloc (.cells #[.int .i64 k,.string t,.string v,.slice A len c] 24)).alloc (.cells #[.bool false] 4)).alloc (.cells #[.int .i64 k,.string t,.string v,.slice A len c] 24) = W3:=⟨_,rfl⟩
 rw [hW3]
 have hbel : Below W.heap.size W W3:=by
  rw [<- hW3]
  exact (((Below.refl _ W).alloc (Nat.le_refl _) _).alloc (by simp) _).alloc (by simp; omega) _
 have hsz : W3.heap.size = W.heap.size + 3:=by rw [<- hW3]; simp
 have hbx : NBox W3 (W.heap.size + 1 + 1) n A c:=by
  unfold NBox
  rw [hn.1,hn.2.1,hn.2.2.1,hn.2.2.2,<- hW3]
  have:=Blk.new ((W.alloc (.cells #[.int .i64 k,.string t,.string v,.slice A len c] 24)).alloc (.cells #[.bool false] 4)) 24 #[.int .i64 k,.string t,.string v,.slice A len c]
  rw [World.size_alloc,World.size_alloc] at this
  exact this
 have hb1 : Blk W3 (W.heap.size + 1) 4 #[.bool false]:=by
  rw [<- hW3]
  have:=(Blk.new (W.alloc (.cells #[.int .i64 k,.string t,.string v,.slice A len c] 24)) 4 #[.bool false]).alloc (.cells #[.int .i64 k,.string t,.string v,.slice A len c] 24)
  rw [World.size_alloc] at this
  exact this
 have hvb : Blk W3 vb 128 #[.func (.yield l) #[] #[]]:=hv.below hbel hvl
 have hA3:=hA.below hbel
 have hKW : Kept K W W3:=Kept.of_below hbel
 have hJ3 : J off W3:=hJ _ _ _ h0 (Tch.of_below hbel)
 have hK3 : ∀ k o,Needs cWalk b0 W3.heap.size k o -> K k o:=fun k o h => hK k o (h.imp_right fun h => h.imp_right fun h => ⟨by omega,h.2⟩)
 clear hW3 hn
 refine range_rounds (C:=cWalk) (T:=tWalk) tWalk_bk cWalk_bk rfl rfl (f:=74) (fa:=#[]) (lb:=#[.pointer (some ⟨W.heap.size + 1 + 1,0,none⟩)]) rfl trivial (enters_of Tryz.func74 (by kernel_rfl) rfl)
  (x:=visA n) (N:=(visN n).length) (fun _ => rfl) (b0:=b0) (by omega) K hK3
  (fun o => ih _ _ b0 A c _ (by simp; omega) (by omega) ((Blk.alloc (Blk.alloc hbx _) _)) ((hA3.below ((Below.refl _ _).alloc (Nat.le_refl _) _)).below ((Below.refl _ _).alloc (Nat.le_refl _) _)))
  (fun j W' => J (off + j) W' /\ Blk W' (W.heap.size + 1) 4 #[.bool false] /\ Blk W' vb 128 #[.func (.yield l) #[] #[]])
  (fun W' => Jx W' /\ Blk W' (W.heap.size + 1) 4 #[.bool false])
  (fun j A' A'' hi ht => ⟨hJ _ _ _ hi.1 (ht.lower (by omega)),hi.2.1.tch ht (.inl (by omega)),hi.2.2.tch ht (.inl (by omega))⟩)
  (fun A' A'' hi ht => ⟨hX _ _ hi.1 (ht.lower (by omega)),hi.2.tch ht (.inl (by omega))⟩)
  ⟨hJ3,hb1,hvb⟩
  (fun j a' W' => ∃ eb,Blk W' eb 67 #[.int .i64 ((visN n).getD j noneE).k,.string ((visN n).getD j noneE).t,.string ((visN n).getD j noneE).v] /\ a' = { tmps:=#[.agg #[.int .i64 k,.string t,.string v,.slice A len c],.pointer (some ⟨vb,0,none⟩),.pointer (some ⟨W.heap.size,0,none⟩),.pointer (some ⟨W.heap.size + 1,0,none⟩),.pointer (some ⟨eb,0,none⟩),.agg #[.int .i64 k,.string t,.string v,.slice A len c],.func (.func 74) #[] #[.pointer (some ⟨W.heap.size + 1 + 1,0,none⟩)],evV ((visN n).getD j noneE),undef,undef,undef,undef],defers:=[] })
  (fun j a' A' A'' h ht => by obtain ⟨eb,h1,h2⟩:=h; exact ⟨eb,h1.tch ht (.inr (by simp [tWalk])),h2⟩)
  ?assign ?body ?done ?stop
 case assign =>
  intro l' j W' Kc hj hi hKc
  unfold visA evV at *
  generalize (visN n).getD j noneE = x at *
  gi_wp2
  exact hKc _ _ (Kept.alloc1 _ _ _) ⟨hJ _ _ _ hi.1 ((Tch.refl _ _ _).alloc _),hi.2.1.alloc _,hi.2.2.alloc _⟩ ⟨_,Blk.new _ _ _,rfl⟩
 case body =>
  rintro l' j a' W' hj ⟨hj1,hbl,hvl'⟩ ⟨eb,hE,rfl⟩
  obtain ⟨fn,tmps,assign,body,hy,hR⟩:=hY (3 - 1 - 1 - 1) j W' hj hj1
  unfold evV at *
  generalize (visN n).getD j noneE = x at *
  have e0:=hE.cell 0
  have e1:=hE.cell 1
  have e2:=hE.cell 2
  have e3 : W'.cell? ⟨vb,0,none⟩ = some (.func (.yield l) #[] #[]):=hvl'.cell 0
  have f1 : W'.frozen? ⟨W.heap.size + 1,0,none⟩ = false:=hbl.frozen 0
  have l1:=hbl.lt
  gi_wp2
  refine RoundIn.mono (F:=Fence.wide.inRound l') hR ?_
  clear hR
  rintro e W4 ⟨hk4,(⟨rfl,hJ4⟩ | ⟨rfl,hx4⟩)⟩
  ·have g1:=hbl.kept hk4 (hK _ _ (.inr (.inl (.inr (.inr rfl)))))
   have g2:=hvl'.kept hk4 (hK _ _ (.inr (.inl (.inr (.inl rfl)))))
   gi_wp2
   exact ⟨hk4,.inl ⟨rfl,hJ4,g1,g2⟩⟩
  ·have g1:=hbl.kept hk4 (hK _ _ (.inr (.inl (.inr (.inr rfl)))))
   have f2 : W4.frozen? ⟨W.heap.size + 1,0,none⟩ = false:=g1.frozen 0
   have g0 : W4.cell? ⟨W.heap.size + 1,0,none⟩ = some (.bool false):=g1.cell 0
   have l2:=g1.lt
   gi_wp2
   exact ⟨hk4.set_same g1 rfl,.inr ⟨rfl,hX _ _ hx4 (show Tch B tWalk W4 (W4.setCell ⟨W.heap.size + 1,0,none⟩ (.bool false)) from tch_set (T:=tWalk) g1 (by show B <= W.heap.size + 1; omega) rfl 0 _),g1.set_ 0 (.bool false)⟩⟩
 case done =>
  rintro D W' hD hk ⟨hj,hbl,_⟩ hK'
  have f1 : W'.frozen? ⟨W.heap.size + 1,0,none⟩ = false:=hbl.frozen 0
  have g0 : W'.cell? ⟨W.heap.size + 1,0,none⟩ = some (.bool false):=hbl.cell 0
  have l1:=hbl.lt
  gi_wp2
  have g1:=hbl.set_ 0 (.bool true)
  have ht1 : Tch B tWalk W' (W'.setCell ⟨W.heap.size + 1,0,none⟩ (.bool true)):=tch_set (T:=tWalk) hbl (by show B <= W.heap.size + 1; omega) rfl 0 _
  have hD1 : (W'.setCell ⟨W.heap.size + 1,0,none⟩ (.bool true)).heap[D]? = some (.deferred (some [])):=(Below.heap_setCell W' ⟨W.heap.size + 1,0,none⟩ _ D (by show D ≠ W.heap.size + 1; omega)).trans hK'
  refine ⟨by simp,.inl ⟨_,_,rfl,run_takeDeferred hD1,?_⟩⟩
  have ht2 : Tch B tWalk (W'.setCell ⟨W.heap.size + 1,0,none⟩ (.bool true)) ((W'.setCell ⟨W.heap.size + 1,0,none⟩ (.bool true)).putObj D (.deferred none)):=tch_put _ (by omega) hD1 trivial
  have g2 : Blk ((W'.setCell ⟨W.heap.size + 1,0,none⟩ (.bool true)).putObj D (.deferred none)) (W.heap.size + 1) 4 #[.bool true]:=(World.putObj_heap_other (show W.heap.size + 1 ≠ D by omega)).trans g1
  have g3 : _ = some (Value.bool true):=g2.cell 0
  have hkp:=(hKW.trans hk).set_new (p:=⟨W.heap.size + 1,0,none⟩) (by simp) (.bool true)
  have hkq:=kept_put_new hkp (l:=D) (by omega) (.deferred none)
  refine ⟨.bool true,?_,hkq,.inl ⟨rfl,hJ _ _ _ hj (ht1.trans ht2)⟩⟩
  simp [results,Tryz.f76,go_sem,g3]
 case stop =>
  rintro D W' hD hk ⟨hx,hbl⟩ hK'
  have g0 : W'.cell? ⟨W.heap.size + 1,0,none⟩ = some (.bool false):=hbl.cell 0
  gi_wp2
  refine ⟨by simp,.inl ⟨_,_,rfl,run_takeDeferred hK',?_⟩⟩
  have ht2 : Tch B tWalk W' (W'.putObj D (.deferred none)):=tch_put _ (by omega) hK' trivial
  have g2 : Blk (W'.putObj D (.deferred none)) (W.heap.size + 1) 4 #[.bool false]:=(World.putObj_heap_other (show W.heap.size + 1 ≠ D by omega)).trans hbl
  have g3 : _ = some (Value.bool false):=g2.cell 0
  have hkq:=kept_put_new (hKW.trans hk) (l:=D) (by omega) (.deferred none)
  refine ⟨.bool false,?_,hkq,.inr ⟨rfl,hX _ _ hx ht2⟩⟩
  simp [results,Tryz.f76,go_sem,g3]
theorem low_cell {K : Nat -> Obj -> Prop} {C : Obj -> Prop} {W W' : World} {b0 B : Nat} (h : Kept K W W') (hK : ∀ k o,Needs C b0 B k o -> K k o) (hb : b0 <= W.heap.size) {p : Addr} (hp : p.block < b0) : W'.cell? p = W.cell? p:=by
 unfold World.cell?
 rw [h.low hK hb hp]
theorem vis_at {k : Int} {t v : ByteArray} {kids : List Nd} (hs : okShape k kids.length = true) {j : Nat} (hj : j < kids.length) :
 (visL (kids.take (j + 1))).length = (visL (kids.take j)).length + (visN kids[j]).length /\
 ∀ i,i < (visN kids[j]).length -> 1 + (visL (kids.take j)).length + i < (visN (.mk k t v kids)).length /\ (visN (.mk k t v kids)).getD (1 + (visL (kids.take j)).length + i) noneE = (visN kids[j]).getD i noneE:=by
 have h1 : visL (kids.take (j + 1)) = visL (kids.take j) ++ visN kids[j]:=by
  rw [List.take_succ_eq_append_getElem hj,visL_append]; simp [visL]
 have h2 : visL kids = visL (kids.take j) ++ (visN kids[j] ++ visL (kids.drop (j + 1))):=by
  conv => lhs; rw [<- List.take_append_drop j kids,List.drop_eq_getElem_cons hj,visL_append]
  rfl
 refine ⟨by rw [h1,List.length_append],fun i hi => ?_⟩
 simp only [visN,hs,if_true]
 rw [h2]
 constructor
 ·simp only [List.length_cons,List.length_append]; omega
 ·rw [List.getD_eq_getElem?_getD,List.getD_eq_getElem?_getD,show 1 + (visL (kids.take j)).length + i = ((visL (kids.take j)).length + i) + 1 by omega,List.getElem?_cons_succ,List.append_assoc,
   List.getElem?_append_right (by omega),show (visL (kids.take j)).length + i - (visL (kids.take j)).length = i by omega,List.append_assoc,List.getElem?_append_left hi]
theorem vis_end {k : Int} {t v : ByteArray} {kids : List Nd} (hs : okShape k kids.length = true) :
 (opensK k = true -> (visN (.mk k t v kids)).length = 1 + (visL kids).length + 1 /\ (visN (.mk k t v kids)).getD (1 + (visL kids).length) noneE = endE (endK k)) /\ (opensK k = false -> (visN (.mk k t v kids)).length = 1 + (visL kids).length):=by
 simp only [visN,hs,if_true,endL]
 constructor
 ·intro ho
  rw [if_pos ho]
  refine ⟨by simp; omega,?_⟩
  rw [List.getD_eq_getElem?_getD,show 1 + (visL kids).length = (visL kids).length + 1 by omega,List.getElem?_cons_succ,List.getElem?_append_right (Nat.le_refl _),Nat.sub_self]
  rfl
 ·intro ho
  rw [ho]
  simp
  omega
theorem visN_len_pos (n : Nd) : 0 < (visN n).length:=by
 cases n; simp only [visN]; split <;> simp
set_option maxHeartbeats 4000000 in
theorem walk1_any (n : Nd) : Walk1 n:=by
 induction n using Nd.ind with
 | h k t v kids ihk =>
  intro m g b0 A c W hbW hbg hbox hA l B K J Jx hb hB hK hJ hX hY h0
  show CallsIn Fence.wide m Tryz.prog 74 #[.func (.yield l) #[] #[],.pointer (some ⟨g,0,none⟩)] W _
  unfold NBox at hbox
  simp only [Nd.k,Nd.t,Nd.v,Nd.kids] at hbox
  have hgl:=hbox.lt
  obtain ⟨hlc,hcm,hkids⟩:=(NAt.def_ _ _ _).1 hA
  simp only [Nd.kids] at hlc hkids
  have hcm2 : c <= 9223372036854775807:=by simpa [maxLen] using hcm
  have hvs : visN (.mk k t v kids) = if okShape k kids.length then ⟨k,t,v⟩ :: (visL kids ++ endL k) else [noneE]:=rfl
  refine callsIn_anyDepth (m:=6) rfl ?_
  refine callsIn_of_wp Tryz.func74 rfl trivial ?_ rfl
  simp only [Tryz.ntmps74,List.size_toArray,List.length_cons,List.length_nil,Nat.reduceAdd,Nat.reduceSub,Array.replicate_succ,Array.replicate_zero,List.push_toArray,List.append_toArray,List.nil_append,List.cons_append]
  have hW1 : Below W.heap.size W (W.alloc (.cells #[.func (.yield l) #[] #[]] 128)):=(Below.refl _ W).alloc (Nat.le_refl _) _
  have hv1:=Blk.new W 128 #[.func (.yield l) #[] #[]]
  have c0 : (W.alloc (.cells #[.func (.yield l) #[] #[]] 128)).cell? ⟨g,0,none⟩ = some (.int .i64 k):=(hbox.below hW1 hgl).cell 0
  have c1 : (W.alloc (.cells #[.func (.yield l) #[] #[]] 128)).cell? ⟨g,1,none⟩ = some (.string t):=(hbox.below hW1 hgl).cell 1
  have c2 : (W.alloc (.cells #[.func (.yield l) #[] #[]] 128)).cell? ⟨g,2,none⟩ = some (.string v):=(hbox.below hW1 hgl).cell 2
  have c3 : (W.alloc (.cells #[.func (.yield l) #[] #[]] 128)).cell? ⟨g,3,none⟩ = some (.slice A kids.length c):=(hbox.below hW1 hgl).cell 3
  have hY0 : ∀ (x : Ev) (W1 : World),(visN (.mk k t v kids)).getD 0 noneE = x -> J 0 W1 -> YieldAt Fence.wide 5 Tryz.prog l #[evV x] W1 fun e W2 => Kept K W1 W2 /\ ((e = .returned (.bool true) /\ J 1 W2) \/ (e = .returned (.bool false) /\ Jx W2)):=fun x W1 hx hj => by
   have:=hY 5 0 W1 (visN_len_pos _) hj
   unfold visA at this
   rw [hx] at this
   exact this
  unfold evV at hY0
  cases hs : okShape k kids.length with
  | false =>
   rw [hs] at hvs
   have hN : (visN (.mk k t v kids)).length = 1:=by rw [hvs]; rfl
   have hx : (visN (.mk k t v kids)).getD 0 noneE = noneE:=by rw [hvs]; rfl
   have hy1:=fun W1 hj => hY0 noneE W1 hx hj
   unfold noneE at hy1
   rw [hN]
   clear hvs hN hx hY0 hY
   have HS:=Lib.hid hs
   clear hs
   gi_wp2_with (first
    | (refine ⟨trivial,?_⟩; gi_at_call 75; refine (callsIn_wide.2 (formed_tree k t v A kids.length c _)).mono ?_; rintro e w1 ⟨rfl,hbf⟩; rw [HS.out]; have hv2 : w1.cell? ⟨W.heap.size,0,none⟩ = some (.func (.yield l) #[] #[]):=(hv1.below hbf hv1.lt).cell 0; have hb2:=Lib.hid (hW1.trans (hbf.mono hW1.size)); obtain ⟨fn,tmps,assign,body,hy,hR⟩:=hy1 w1 (hJ _ _ _ h0 (Tch.of_below hb2.out))))
   refine hR.mono ?_
   clear hR
   rintro e W4 ⟨hk4,hq⟩
   have hk5:=(Kept.of_below (K:=K) hb2.out).trans hk4
   rcases hq with ⟨rfl,hJ4⟩ | ⟨rfl,hx4⟩
   ·gi_wp2
    refine bodyPost_ret (results_none rfl _ _ _) rfl ?_
    exact ⟨⟨_,rfl⟩,hk5,.inl hJ4⟩
   ·gi_wp2
    refine bodyPost_ret (results_none rfl _ _ _) rfl ?_
    exact ⟨⟨_,rfl⟩,hk5,.inr hx4⟩
  | true =>
   rw [hs] at hvs
   have hx : (visN (.mk k t v kids)).getD 0 noneE = ⟨k,t,v⟩:=by rw [hvs]; rfl
   have hy1:=fun W1 hj => hY0 _ W1 hx hj
   simp only at hy1
   clear hx hY0
   have HS:=Lib.hid hs
   have HV:=Lib.hid hvs
   clear hs hvs
   gi_wp2_with (first
    | (refine ⟨trivial,?_⟩; gi_at_call 75; refine (callsIn_wide.2 (formed_tree k t v A kids.length c _)).mono ?_; rintro e w1 ⟨rfl,hbf⟩; rw [HS.out]; have hv2 : w1.cell? ⟨W.heap.size,0,none⟩ = some (.func (.yield l) #[] #[]):=(hv1.below hbf hv1.lt).cell 0; have d0:=(hbf.cell (p:=⟨g,0,none⟩) (cell_lt c0)).trans c0; have d1:=(hbf.cell (p:=⟨g,1,none⟩) (cell_lt c1)).trans c1; have d2:=(hbf.cell (p:=⟨g,2,none⟩) (cell_lt c2)).trans c2; have hb2:=Lib.hid (hW1.trans (hbf.mono hW1.size)); have hV2:=Lib.hid (hv1.below hbf hv1.lt); obtain ⟨fn,tmps,assign,body,hy,hR⟩:=hy1 w1 (hJ _ _ _ h0 (Tch.of_below hb2.out))))
   refine hR.mono ?_
   clear hR hy1 hy
   rintro e W4 ⟨hk4,hq⟩
   have hk5:=(Kept.of_below (K:=K) hb2.out).trans hk4
   have hV4:=hV2.out.kept hk4 (hK _ _ (.inr (.inl (.inr (.inl rfl)))))
   have hB4:=hbox.kept hk5 (hK _ _ (.inr (.inl (.inl rfl))))
   clear hk4 hV2 hb2 d0 d1 d2 hv2 hbf c0 c1 c2 c3 hv1 hW1
   clear w1
   rcases hq with ⟨rfl,hJ4⟩ | ⟨rfl,hx4⟩
   case inr =>
    gi_wp2
    refine bodyPost_ret (results_none rfl _ _ _) rfl ?_
    exact ⟨⟨_,rfl⟩,hk5,.inr hx4⟩
   case inl =>
    have d3 : W4.cell? ⟨g,3,none⟩ = some (.slice A kids.length c):=hB4.cell 3
    gi_wp2
    gi_loopw [27] (fun i wr => ∃ j : Nat,j <= kids.length /\ i = .int .i64 (j : Int) /\ Hid (J (1 + (visL (kids.take j)).length) wr) /\ Hid (Kept K W wr) /\ Blk wr W.heap.size 128 #[.func (.yield l) #[] #[]]) (fun i _ => kids.length - (intOf i).toNat)
    case atStart => exact ⟨0,Nat.zero_le _,rfl,Lib.hid hJ4,Lib.hid hk5,hV4⟩
    case round =>
     obtain ⟨j,hj,rfl,HJ,HK,hV5⟩:=hrel
     have hB5:=hbox.kept HK.out (hK _ _ (.inr (.inl (.inl rfl))))
     clear hB4 hV4 d3
     by_cases hlt : j < kids.length
     case pos =>
      obtain ⟨b,o,rfl,hbb,hkid⟩:=hkids (by omega)
      obtain ⟨A',c',e0,e1,e2,e3,hn⟩:=hkid j hlt
      have q0:=(low_cell HK.out hK hbW (p:=⟨b,o + j * 4,none⟩) hbb).trans e0
      have q1:=(low_cell HK.out hK hbW (p:=⟨b,o + j * 4 + 1,none⟩) hbb).trans e1
      have q2:=(low_cell HK.out hK hbW (p:=⟨b,o + j * 4 + 2,none⟩) hbb).trans e2
      have q3:=(low_cell HK.out hK hbW (p:=⟨b,o + j * 4 + 3,none⟩) hbb).trans e3
      have hva:=vis_at (t:=t) (v:=v) HS.out hlt
      have hnr : NAt (fun b _ => b < b0) wr kids[j] A' c':=hn.low fun i hi => HK.out.low hK hbW hi
      have hih:=ihk _ (List.getElem_mem hlt)
      clear e0 e1 e2 e3 hn hkid
      generalize kids[j] = kd at *
      have hbs:=HK.out.size
      have hal : Below wr.heap.size wr (wr.alloc (.cells #[.int .i64 kd.k,.string kd.t,.string kd.v,.slice A' kd.kids.length c'] 24)):=(Below.refl _ _).alloc (Nat.le_refl _) _
      have hcall:=callsIn_anyDepth (m':=5) rfl (within_any kd hih l B b0 (1 + (visL (kids.take j)).length) K J Jx (wr.alloc (.cells #[.int .i64 kd.k,.string kd.t,.string kd.v,.slice A' kd.kids.length c'] 24)) hb (by simp; omega) hK hJ hX
       (fun m i W1 hi hj => by
        have h1:=hva.2 i hi
        have:=hY m _ W1 h1.1 hj
        unfold visA at this
        rw [h1.2] at this
        exact this)
       W.heap.size (hV5.alloc _) kd.k kd.t kd.v A' kd.kids.length c' ⟨rfl,rfl,rfl,rfl⟩ (hnr.below hal) (hJ _ _ _ HJ.out (Tch.of_below hal)))
      have HL:=Lib.hid hva.1
      have g3 : wr.cell? ⟨g,3,none⟩ = some (.slice (some ⟨b,o,none⟩) kids.length c):=hB5.cell 3
      have hjc : j < c:=by omega
      clear hva hih hnr hkids hal
      gi_wp2_with (first
       | (refine ⟨trivial,?_⟩; gi_at_call 76; refine hcall.mono ?_; clear hcall; rintro e w5 ⟨hk5,(⟨rfl,hJ5⟩ | ⟨rfl,hx5⟩)⟩))
      ·have hk6:=HK.out.trans ((Kept.alloc1 K wr _).trans hk5)
       have hV6:=(hV5.alloc (.cells #[.int .i64 kd.k,.string kd.t,.string kd.v,.slice A' kd.kids.length c'] 24)).kept hk5 (hK _ _ (.inr (.inl (.inr (.inl rfl)))))
       gi_wp2
       go_roundw
       case rel => exact ⟨j + 1,hlt,by go_num,Lib.hid (by rw [HL.out,<- Nat.add_assoc]; exact hJ5),Lib.hid hk6,hV6⟩
       case measure => first | (simp [intOf]; done) | (simp [intOf]; omega)
      ·have hk6:=HK.out.trans ((Kept.alloc1 K wr _).trans hk5)
       gi_wp2
       refine bodyPost_ret (results_none rfl _ _ _) rfl ?_
       exact ⟨⟨_,rfl⟩,hk6,.inr hx5⟩
     case neg =>
      have hje : j = kids.length:=by omega
      subst hje
      rw [List.take_length] at HJ
      have d0 : wr.cell? ⟨g,0,none⟩ = some (.int .i64 k):=hB5.cell 0
      have d4 : wr.cell? ⟨W.heap.size,0,none⟩ = some (.func (.yield l) #[] #[]):=hV5.cell 0
      have hve:=vis_end (t:=t) (v:=v) HS.out
      have hei:=endI_opens k
      have hE:=endOf_any k wr
      cases ho : opensK k with
      | true =>
       obtain ⟨hN,hx⟩:=hve.1 ho
       obtain ⟨he1,he2⟩:=hei.1 ho
       have hy2:=hY 5 (1 + (visL kids).length) wr (by omega) HJ.out
       unfold visA at hy2
       rw [hx] at hy2
       unfold evV endE at hy2
       rw [<- he1] at hy2
       generalize endI k = E at *
       obtain ⟨fn,tmps,assign,body,hy,hR⟩:=hy2
       have hz:=ibeq he2
       have hz2:=ibne he2
       have HN:=Lib.hid hN
       clear hN hx he1 he2 hei hve hY ho
       gi_wp2_with (first
        | (refine ⟨trivial,?_⟩; gi_at_call 77; refine (callsIn_wide.2 hE).mono ?_; clear hE; rintro e w5 ⟨rfl,rfl⟩))
       refine hR.mono ?_
       clear hR
       rintro e W5 ⟨hk5',hq⟩
       have hk6:=HK.out.trans hk5'
       rcases hq with ⟨rfl,hJ5⟩ | ⟨rfl,hx5⟩
       ·gi_wp2
        go_end0
        exact ⟨⟨_,rfl⟩,hk6,.inl (by rw [HN.out]; exact hJ5)⟩
       ·gi_wp2
        go_end0
        exact ⟨⟨_,rfl⟩,hk6,.inr hx5⟩
      | false =>
       have hN:=hve.2 ho
       have he1:=hei.2 ho
       rw [he1] at hE
       have HN:=Lib.hid hN
       clear hN he1 hei hve hY ho
       gi_wp2_with (first
        | (refine ⟨trivial,?_⟩; gi_at_call 77; refine (callsIn_wide.2 hE).mono ?_; clear hE; rintro e w5 ⟨rfl,rfl⟩))
       go_end0
       exact ⟨⟨_,rfl⟩,HK.out,.inl (by rw [HN.out]; exact HJ.out)⟩
end Go.Proofs.YtbnppjmmlfncmaaGreatDoor
