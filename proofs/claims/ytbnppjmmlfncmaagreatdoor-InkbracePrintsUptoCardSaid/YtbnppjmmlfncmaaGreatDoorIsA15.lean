/-
  events: formed: whether Text and Val are allowed for a kind.
-/
import Derived.Test.YtbnppjmmlfncmaaGreatDoorIsA14
import Derived.Test.YtbnppjmmlfncmaaGreatDoorIsA07
set_option maxRecDepth 100000
namespace Go.Proofs.YtbnppjmmlfncmaaGreatDoor
open Go.RowKit
theorem emptyT_nil : emptyT ⟨#[]⟩ = true:=rfl
theorem emptyT_no {s : ByteArray} (h : ¬ s.size = 0) : emptyT s = false:=by
 unfold emptyT
 rw [decide_eq_false_iff_not]
 intro e
 apply h
 have:=congrArg List.length e
 simpa using this
theorem str_nil {s : ByteArray} (h : s.size = 0) : s = ⟨#[]⟩:=ByteArray.ext (Array.eq_empty_of_size_eq_zero h)
def evV (x : Ev) : Value:=.agg #[.int .i64 x.k,.string x.t,.string x.v]
def EvAt (w : World) (b : Nat) (x : Ev) : Prop:=Blk w b 67 #[.int .i64 x.k,.string x.t,.string x.v]
theorem EvAt.new (w : World) (x : Ev) : EvAt (w.alloc (.cells #[.int .i64 x.k,.string x.t,.string x.v] 67)) w.heap.size x:=Blk.new w _ _
theorem EvAt.below {w w' : World} {b : Nat} {x : Ev} (h : EvAt w b x) (hb : Below w.heap.size w w') : EvAt w' b x:=Blk.below h hb (Blk.lt h)
theorem EvAt.drewN {w : World} {b : Nat} {x : Ev} (h : EvAt w b x) (n : Nat) : EvAt (w.drewN n) b x:=h
theorem EvAt.c0 {w : World} {b : Nat} {x : Ev} (h : EvAt w b x) : w.cell? ⟨b,0,none⟩ = some (.int .i64 x.k):=Blk.cell h 0
theorem EvAt.c1 {w : World} {b : Nat} {x : Ev} (h : EvAt w b x) : w.cell? ⟨b,1,none⟩ = some (.string x.t):=Blk.cell h 1
theorem EvAt.c2 {w : World} {b : Nat} {x : Ev} (h : EvAt w b x) : w.cell? ⟨b,2,none⟩ = some (.string x.v):=Blk.cell h 2
def FPost (x : Ev) (w : World) (e : Ending) (w' : World) : Prop:=e = .returned (.bool (formedB x)) /\ Below w.heap.size w w'
section
variable (x : Ev) (w : World)
set_option maxHeartbeats 4000000 in
theorem formed_bare (h : bareK x.k = true) : Calls Tryz.prog 78 #[evV x] w (FPost x w):=by
 have hF : formedB x = (emptyT x.t && emptyT x.v):=by unfold formedB; rw [if_pos h]
 unfold FPost evV
 rw [hF]
 clear hF
 obtain ⟨k,t,v⟩:=x
 have hbel:=(Below.refl w.heap.size w).alloc (Nat.le_refl _) (.cells #[.int .i64 k,.string t,.string v] 67)
 simp only at h ⊢
 unfold bareK at h
 rw [decide_eq_true_iff] at h
 by_cases ht : t.size = 0
 ·obtain rfl:=str_nil ht
  rw [emptyT_nil,Bool.true_and]
  by_cases hv : v.size = 0
  ·obtain rfl:=str_nil hv
   rw [emptyT_nil]
   rcases h with rfl | rfl | rfl | rfl | rfl | rfl
   all_goals
    go_enter Tryz.func78,Tryz.ntmps78
    go_wp2
    go_ret
    exact ⟨rfl,hbel⟩
  ·have n1:=str_ne hv
   have n2:=str_ne2 hv
   rw [emptyT_no hv]
   rcases h with rfl | rfl | rfl | rfl | rfl | rfl
   all_goals
    go_enter Tryz.func78,Tryz.ntmps78
    go_wp2
    go_ret
    exact ⟨rfl,hbel⟩
 ·have n1:=str_ne ht
  have n2:=str_ne2 ht
  rw [emptyT_no ht,Bool.false_and]
  rcases h with rfl | rfl | rfl | rfl | rfl | rfl
  all_goals
   go_enter Tryz.func78,Tryz.ntmps78
   go_wp2
   go_ret
   exact ⟨rfl,hbel⟩
set_option maxHeartbeats 4000000 in
theorem formed_bool (h : x.k = 2) : Calls Tryz.prog 78 #[evV x] w (FPost x w):=by
 have hF : formedB x = (emptyT x.v && boolL x.t.data.toList):=by unfold formedB; rw [h,if_neg (by decide),if_pos rfl]
 unfold FPost evV
 rw [hF]
 clear hF
 obtain ⟨k,t,v⟩:=x
 have hbel:=(Below.refl w.heap.size w).alloc (Nat.le_refl _) (.cells #[.int .i64 2,.string t,.string v] 67)
 simp only at h ⊢
 subst h
 by_cases hv : v.size = 0
 ·obtain rfl:=str_nil hv
  rw [emptyT_nil,Bool.true_and]
  by_cases h1 : t = ⟨#[116,114,117,101]⟩
  ·subst h1
   go_enter Tryz.func78,Tryz.ntmps78
   go_wp2
   go_ret
   exact ⟨rfl,hbel⟩
  ·by_cases h2 : t = ⟨#[102,97,108,115,101]⟩
   ·subst h2
    go_enter Tryz.func78,Tryz.ntmps78
    go_wp2
    go_ret
    exact ⟨rfl,hbel⟩
   ·have e1 : boolL t.data.toList = false:=by
     unfold boolL
     rw [decide_eq_false (fun e => h1 (ByteArray.ext (by have:=congrArg List.toArray e; simpa using this))),decide_eq_false (fun e => h2 (ByteArray.ext (by have:=congrArg List.toArray e; simpa using this)))]
     rfl
    rw [e1]
    obtain ⟨m1,m2⟩:=str_diff h1
    obtain ⟨m3,m4⟩:=str_diff h2
    simp at m1 m2 m3 m4
    clear h1 h2 e1
    go_enter Tryz.func78,Tryz.ntmps78
    go_wp2
    go_ret
    exact ⟨rfl,hbel⟩
 ·have n1:=str_ne hv
  have n2:=str_ne2 hv
  rw [emptyT_no hv,Bool.false_and]
  go_enter Tryz.func78,Tryz.ntmps78
  go_wp2
  go_ret
  exact ⟨rfl,hbel⟩
set_option maxHeartbeats 4000000 in
theorem formed_num (h : x.k = 3) (hw : Nm.StdW w) (hs : x.t.size <= 140737488355328) : Calls Tryz.prog 78 #[evV x] w (FPost x w):=by
 have hF : formedB x = (emptyT x.v && normL x.t.data.toList):=by unfold formedB; rw [h,if_neg (by decide),if_neg (by decide),if_pos rfl]
 unfold FPost evV
 rw [hF]
 clear hF
 obtain ⟨k,t,v⟩:=x
 have hbel:=(Below.refl w.heap.size w).alloc (Nat.le_refl _) (.cells #[.int .i64 3,.string t,.string v] 67)
 simp only at h hs ⊢
 subst h
 by_cases hv : v.size = 0
 ·obtain rfl:=str_nil hv
  rw [emptyT_nil,Bool.true_and]
  go_enter Tryz.func78,Tryz.ntmps78
  go_wp2_with (first
   | (go_at_call 112; refine (normal_any t _ (hw.below ((Below.refl w.heap.size w).alloc (Nat.le_refl _) _)) hs).mono ?_; rintro e w1 ⟨rfl,hb1⟩; replace hbel:=hbel.trans (hb1.mono hbel.size)))
  go_ret
  exact ⟨rfl,hbel⟩
 ·have n1:=str_ne hv
  have n2:=str_ne2 hv
  rw [emptyT_no hv,Bool.false_and]
  go_enter Tryz.func78,Tryz.ntmps78
  go_wp2
  go_ret
  exact ⟨rfl,hbel⟩
set_option maxHeartbeats 4000000 in
theorem formed_text (h : x.k = 4 \/ x.k = 8) : Calls Tryz.prog 78 #[evV x] w (FPost x w):=by
 have hF : formedB x = (emptyT x.v && validL x.t.data.toList):=by
  unfold formedB
  rw [if_neg (by unfold bareK; rw [decide_eq_true_iff]; omega),if_neg (by omega),if_neg (by omega),if_pos h]
 unfold FPost evV
 rw [hF]
 clear hF
 obtain ⟨k,t,v⟩:=x
 simp only at h ⊢
 rcases h with rfl | rfl
 case' inl => have hbel:=(Below.refl w.heap.size w).alloc (Nat.le_refl _) (.cells #[.int .i64 4,.string t,.string v] 67)
 case' inr => have hbel:=(Below.refl w.heap.size w).alloc (Nat.le_refl _) (.cells #[.int .i64 8,.string t,.string v] 67)
 all_goals
  by_cases hv : v.size = 0
  ·obtain rfl:=str_nil hv
   rw [emptyT_nil,Bool.true_and]
   go_enter Tryz.func78,Tryz.ntmps78
   go_wp2_with (first
    | (go_at_call 113; refine (evalid_any t _).mono ?_; rintro e w1 ⟨rfl,hb1⟩; replace hbel:=hbel.trans (hb1.mono hbel.size)))
   go_ret
   exact ⟨rfl,hbel⟩
  ·have n1:=str_ne hv
   have n2:=str_ne2 hv
   rw [emptyT_no hv,Bool.false_and]
   go_enter Tryz.func78,Tryz.ntmps78
   go_wp2
   go_ret
   exact ⟨rfl,hbel⟩
set_option maxHeartbeats 4000000 in
theorem formed_elem (h : x.k = 10) (hs : x.t.size <= 140737488355328) : Calls Tryz.prog 78 #[evV x] w (FPost x w):=by
 have hF : formedB x = (emptyT x.v && fullL x.t.data.toList):=by unfold formedB; rw [h,if_neg (by decide),if_neg (by decide),if_neg (by decide),if_neg (by decide),if_pos rfl]
 unfold FPost evV
 rw [hF]
 clear hF
 have hx:=EvAt.new w x
 obtain ⟨k,t,v⟩:=x
 have hbel:=(Below.refl w.heap.size w).alloc (Nat.le_refl _) (.cells #[.int .i64 10,.string t,.string v] 67)
 simp only at h hs hx ⊢
 subst h
 by_cases hv : v.size = 0
 ·obtain rfl:=str_nil hv
  rw [emptyT_nil,Bool.true_and]
  have hc1:=hx.c1
  go_enter Tryz.func78,Tryz.ntmps78
  go_wp2_with (first
   | (go_at_call 110; refine (named_any w.heap.size t _ hc1 hs).mono ?_; rintro e w1 ⟨rfl,hb1⟩; replace hbel:=hbel.trans (hb1.mono hbel.size)))
  go_ret
  exact ⟨rfl,hbel⟩
 ·have n1:=str_ne hv
  have n2:=str_ne2 hv
  rw [emptyT_no hv,Bool.false_and]
  go_enter Tryz.func78,Tryz.ntmps78
  go_wp2
  go_ret
  exact ⟨rfl,hbel⟩
set_option maxHeartbeats 4000000 in
theorem formed_attr (h : x.k = 11) (hs : x.t.size <= 140737488355328) : Calls Tryz.prog 78 #[evV x] w (FPost x w):=by
 have hF : formedB x = (validL x.v.data.toList && fullL x.t.data.toList):=by unfold formedB; rw [h,if_neg (by decide),if_neg (by decide),if_neg (by decide),if_neg (by decide),if_neg (by decide),if_pos rfl]
 unfold FPost evV
 rw [hF]
 clear hF
 have hx:=EvAt.new w x
 obtain ⟨k,t,v⟩:=x
 have hbel:=(Below.refl w.heap.size w).alloc (Nat.le_refl _) (.cells #[.int .i64 11,.string t,.string v] 67)
 simp only at h hs hx ⊢
 subst h
 cases hv : validL v.data.toList with
 | true =>
  have HV:=Lib.hid hv
  clear hv
  rw [Bool.true_and]
  go_enter Tryz.func78,Tryz.ntmps78
  go_wp2_with (first
   | (go_at_call 113; refine (evalid_any v _).mono ?_; rintro e w1 ⟨rfl,hb1⟩; rw [HV.out]; replace hbel:=hbel.trans (hb1.mono hbel.size); have hc1:=(hx.below hb1).c1)
   | (go_at_call 110; refine (named_any w.heap.size t _ hc1 hs).mono ?_; rintro e w2 ⟨rfl,hb2⟩; replace hbel:=hbel.trans (hb2.mono hbel.size)))
  go_ret
  exact ⟨rfl,hbel⟩
 | false =>
  have HV:=Lib.hid hv
  clear hv
  rw [Bool.false_and]
  go_enter Tryz.func78,Tryz.ntmps78
  go_wp2_with (first
   | (go_at_call 113; refine (evalid_any v _).mono ?_; rintro e w1 ⟨rfl,hb1⟩; rw [HV.out]; replace hbel:=hbel.trans (hb1.mono hbel.size)))
  go_ret
  exact ⟨rfl,hbel⟩
set_option maxHeartbeats 4000000 in
theorem formed_other (h : bareK x.k = false /\ x.k ≠ 2 /\ x.k ≠ 3 /\ x.k ≠ 4 /\ x.k ≠ 8 /\ x.k ≠ 10 /\ x.k ≠ 11) : Calls Tryz.prog 78 #[evV x] w (FPost x w):=by
 obtain ⟨h1,h2,h3,h4,h8,h10,h11⟩:=h
 have hF : formedB x = false:=by unfold formedB; rw [h1,if_neg (by decide),if_neg h2,if_neg h3,if_neg (by omega),if_neg h10,if_neg h11]
 unfold FPost evV
 rw [hF]
 clear hF
 obtain ⟨k,t,v⟩:=x
 have hbel:=(Below.refl w.heap.size w).alloc (Nat.le_refl _) (.cells #[.int .i64 k,.string t,.string v] 67)
 simp only at h1 h2 h3 h4 h8 h10 h11 ⊢
 unfold bareK at h1
 rw [decide_eq_false_iff_not] at h1
 have d1 : (k == 1) = false:=by rw [beq_eq_false_iff_ne]; omega
 have d2 : (k == 2) = false:=by rw [beq_eq_false_iff_ne]; omega
 have d3 : (k == 3) = false:=by rw [beq_eq_false_iff_ne]; omega
 have d4 : (k == 4) = false:=by rw [beq_eq_false_iff_ne]; omega
 have d5 : (k == 5) = false:=by rw [beq_eq_false_iff_ne]; omega
 have d6 : (k == 6) = false:=by rw [beq_eq_false_iff_ne]; omega
 have d7 : (k == 7) = false:=by rw [beq_eq_false_iff_ne]; omega
 have d8 : (k == 8) = false:=by rw [beq_eq_false_iff_ne]; omega
 have d9 : (k == 9) = false:=by rw [beq_eq_false_iff_ne]; omega
 have d10 : (k == 10) = false:=by rw [beq_eq_false_iff_ne]; omega
 have d11 : (k == 11) = false:=by rw [beq_eq_false_iff_ne]; omega
 have d12 : (k == 12) = false:=by rw [beq_eq_false_iff_ne]; omega
 clear h1 h2 h3 h4 h8 h10 h11
 go_enter Tryz.func78,Tryz.ntmps78
 go_wp2
 go_ret
 exact ⟨rfl,hbel⟩
theorem formed_any (hw : Nm.StdW w) (hs : x.t.size <= 140737488355328) : Calls Tryz.prog 78 #[evV x] w (FPost x w):=by
 cases hb : bareK x.k with
 | true => exact formed_bare x w hb
 | false =>
  by_cases h2 : x.k = 2
  ·exact formed_bool x w h2
  by_cases h3 : x.k = 3
  ·exact formed_num x w h3 hw hs
  by_cases h4 : x.k = 4 \/ x.k = 8
  ·exact formed_text x w h4
  by_cases h10 : x.k = 10
  ·exact formed_elem x w h10 hs
  by_cases h11 : x.k = 11
  ·exact formed_attr x w h11 hs
  ·exact formed_other x w ⟨hb,h2,h3,by omega,by omega,h10,h11⟩
end
end Go.Proofs.YtbnppjmmlfncmaaGreatDoor
