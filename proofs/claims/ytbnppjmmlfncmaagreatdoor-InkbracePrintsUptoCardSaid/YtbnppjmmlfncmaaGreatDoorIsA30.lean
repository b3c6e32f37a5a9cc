/-
  The reference's Right (hexaplaref05): whether an event's Text and Val may be: the same answer.
-/
import Derived.Test.YtbnppjmmlfncmaaGreatDoorIsA29
set_option maxRecDepth 100000
namespace Go.Proofs.YtbnppjmmlfncmaaGreatDoor
open Go.RowKit
section
variable (x : Ev) (w : World)
set_option maxHeartbeats 4000000 in
theorem right_attr (h : x.k = 11) (hs : x.t.size <= 1099511627776) (hs2 : x.v.size <= 1099511627776) : Calls Tryz.prog 104 #[evV x] w (FPost x w):=by
 have hF : formedB x = (fullL x.t.data.toList && validL x.v.data.toList):=by rw [Bool.and_comm]; unfold formedB; rw [h,if_neg (by decide),if_neg (by decide),if_neg (by decide),if_neg (by decide),if_neg (by decide),if_pos rfl]
 unfold FPost evV
 rw [hF]
 clear hF
 obtain ⟨k,t,v⟩:=x
 simp only at h hs hs2 ⊢
 subst h
 obtain ⟨ft,hft⟩ : ∃ b,fullL t.data.toList = b:=⟨_,rfl⟩
 obtain ⟨vb,hvb⟩ : ∃ b,validL v.data.toList = b:=⟨_,rfl⟩
 rw [hft,hvb]
 have HF:=Lib.hid hft
 have HV:=Lib.hid hvb
 clear hft hvb
 cases ft
 all_goals
  have hX:=EvAt.new w (⟨11,t,v⟩ : Ev)
  have hbel:=(Below.refl w.heap.size w).alloc (Nat.le_refl _) (.cells #[.int .i64 11,.string t,.string v] 67)
  have y1:=hX.c1
  simp only at hX y1
  go_enter Tryz.func104,Tryz.ntmps104
  go_wp2_with fail
  refine (rmay5_any t _ (by first | exact hs | decide)).mono ?_
  rintro e w1 ⟨rfl,hb1⟩
  replace hX:=hX.below hb1
  replace hbel:=hbel.trans (hb1.mono hbel.size)
  have y2:=hX.c2
  simp only at y2
  generalize validL t.data.toList = va at *
  go_wp2_with fail
  refine (rmay5_any v _ (by first | exact hs2 | decide)).mono ?_
  rintro e w2 ⟨rfl,hb2⟩
  rw [HV.out]
  replace hX:=hX.below hb2
  replace hbel:=hbel.trans (hb2.mono hbel.size)
  have z0:=hX.c0
  have z1:=hX.c1
  have z2:=hX.c2
  simp only at z0 z1 z2
  clear y1 y2
  go_wp2_with (first
   | (go_at_call 140; refine (rfull_any t _ hs).mono ?_; rintro e w3 ⟨rfl,hb3⟩; rw [HF.out]; replace hbel:=hbel.trans (hb3.mono hbel.size)))
  go_ret
  exact ⟨rfl,hbel⟩
set_option maxHeartbeats 4000000 in
theorem right_val (h : x.k ≠ 11) (hv : ¬ x.v.size = 0) (hs : x.t.size <= 1099511627776) (hs2 : x.v.size <= 1099511627776) : Calls Tryz.prog 104 #[evV x] w (FPost x w):=by
 have hF : formedB x = false:=by
  unfold formedB
  rw [emptyT_no hv]
  simp only [Bool.and_false,Bool.false_and]
  repeat' split
  all_goals first | rfl | (exact absurd (by assumption) h)
 unfold FPost evV
 rw [hF]
 clear hF
 obtain ⟨k,t,v⟩:=x
 simp only at h hv hs hs2 ⊢
 have d11:=ne_beq h
 have n1:=str_ne hv
 have n2:=str_ne2 hv
 clear h hv
 have hX:=EvAt.new w (⟨k,t,v⟩ : Ev)
 have hbel:=(Below.refl w.heap.size w).alloc (Nat.le_refl _) (.cells #[.int .i64 k,.string t,.string v] 67)
 have y1:=hX.c1
 simp only at hX y1
 go_enter Tryz.func104,Tryz.ntmps104
 go_wp2_with fail
 refine (rmay5_any t _ (by first | exact hs | decide)).mono ?_
 rintro e w1 ⟨rfl,hb1⟩
 replace hX:=hX.below hb1
 replace hbel:=hbel.trans (hb1.mono hbel.size)
 have y2:=hX.c2
 simp only at y2
 generalize validL t.data.toList = va at *
 go_wp2_with fail
 refine (rmay5_any v _ (by first | exact hs2 | decide)).mono ?_
 rintro e w2 ⟨rfl,hb2⟩
 replace hX:=hX.below hb2
 replace hbel:=hbel.trans (hb2.mono hbel.size)
 have z0:=hX.c0
 have z1:=hX.c1
 have z2:=hX.c2
 simp only at z0 z1 z2
 clear y1 y2
 go_wp2_with fail
 go_ret
 exact ⟨rfl,hbel⟩
set_option maxHeartbeats 8000000 in
theorem right_bare (h : bareK x.k = true) (hv : x.v.size = 0) (hs : x.t.size <= 1099511627776) : Calls Tryz.prog 104 #[evV x] w (FPost x w):=by
 have hF : formedB x = (emptyT x.t && emptyT x.v):=by unfold formedB; rw [if_pos h]
 unfold FPost evV
 rw [hF]
 clear hF
 obtain ⟨k,t,v⟩:=x
 simp only at h hv hs ⊢
 obtain rfl:=str_nil hv
 rw [emptyT_nil,Bool.and_true]
 unfold bareK at h
 rw [decide_eq_true_iff] at h
 have hs2 : (⟨#[]⟩ : ByteArray).size <= 1099511627776:=by decide
 by_cases ht : t.size = 0
 ·obtain rfl:=str_nil ht
  rw [emptyT_nil]
  rcases h with rfl | rfl | rfl | rfl | rfl | rfl
  ·have hX:=EvAt.new w (⟨1,⟨#[]⟩,⟨#[]⟩⟩ : Ev)
   have hbel:=(Below.refl w.heap.size w).alloc (Nat.le_refl _) (.cells #[.int .i64 1,.string ⟨#[]⟩,.string ⟨#[]⟩] 67)
   have y1:=hX.c1
   simp only at hX y1
   go_enter Tryz.func104,Tryz.ntmps104
   go_wp2_with fail
   refine (rmay5_any ⟨#[]⟩ _ (by first | exact hs | decide)).mono ?_
   rintro e w1 ⟨rfl,hb1⟩
   replace hX:=hX.below hb1
   replace hbel:=hbel.trans (hb1.mono hbel.size)
   have y2:=hX.c2
   simp only at y2
   generalize validL (⟨#[]⟩ : ByteArray).data.toList = va at *
   go_wp2_with fail
   refine (rmay5_any ⟨#[]⟩ _ (by first | exact hs2 | decide)).mono ?_
   rintro e w2 ⟨rfl,hb2⟩
   replace hX:=hX.below hb2
   replace hbel:=hbel.trans (hb2.mono hbel.size)
   have z0:=hX.c0
   have z1:=hX.c1
   have z2:=hX.c2
   simp only at z0 z1 z2
   clear y1 y2
   go_wp2_with fail
   go_ret
   exact ⟨rfl,hbel⟩
  ·have hX:=EvAt.new w (⟨5,⟨#[]⟩,⟨#[]⟩⟩ : Ev)
   have hbel:=(Below.refl w.heap.size w).alloc (Nat.le_refl _) (.cells #[.int .i64 5,.string ⟨#[]⟩,.string ⟨#[]⟩] 67)
   have y1:=hX.c1
   simp only at hX y1
   go_enter Tryz.func104,Tryz.ntmps104
   go_wp2_with fail
   refine (rmay5_any ⟨#[]⟩ _ (by first | exact hs | decide)).mono ?_
   rintro e w1 ⟨rfl,hb1⟩
   replace hX:=hX.below hb1
   replace hbel:=hbel.trans (hb1.mono hbel.size)
   have y2:=hX.c2
   simp only at y2
   generalize validL (⟨#[]⟩ : ByteArray).data.toList = va at *
   go_wp2_with fail
   refine (rmay5_any ⟨#[]⟩ _ (by first | exact hs2 | decide)).mono ?_
   rintro e w2 ⟨rfl,hb2⟩
   replace hX:=hX.below hb2
   replace hbel:=hbel.trans (hb2.mono hbel.size)
   have z0:=hX.c0
   have z1:=hX.c1
   have z2:=hX.c2
   simp only at z0 z1 z2
   clear y1 y2
   go_wp2_with fail
   go_ret
   exact ⟨rfl,hbel⟩
  ·have hX:=EvAt.new w (⟨6,⟨#[]⟩,⟨#[]⟩⟩ : Ev)
   have hbel:=(Below.refl w.heap.size w).alloc (Nat.le_refl _) (.cells #[.int .i64 6,.string ⟨#[]⟩,.string ⟨#[]⟩] 67)
   have y1:=hX.c1
   simp only at hX y1
   go_enter Tryz.func104,Tryz.ntmps104
   go_wp2_with fail
   refine (rmay5_any ⟨#[]⟩ _ (by first | exact hs | decide)).mono ?_
   rintro e w1 ⟨rfl,hb1⟩
   replace hX:=hX.below hb1
   replace hbel:=hbel.trans (hb1.mono hbel.size)
   have y2:=hX.c2
   simp only at y2
   generalize validL (⟨#[]⟩ : ByteArray).data.toList = va at *
   go_wp2_with fail
   refine (rmay5_any ⟨#[]⟩ _ (by first | exact hs2 | decide)).mono ?_
   rintro e w2 ⟨rfl,hb2⟩
   replace hX:=hX.below hb2
   replace hbel:=hbel.trans (hb2.mono hbel.size)
   have z0:=hX.c0
   have z1:=hX.c1
   have z2:=hX.c2
   simp only at z0 z1 z2
   clear y1 y2
   go_wp2_with fail
   go_ret
   exact ⟨rfl,hbel⟩
  ·have hX:=EvAt.new w (⟨7,⟨#[]⟩,⟨#[]⟩⟩ : Ev)
   have hbel:=(Below.refl w.heap.size w).alloc (Nat.le_refl _) (.cells #[.int .i64 7,.string ⟨#[]⟩,.string ⟨#[]⟩] 67)
   have y1:=hX.c1
   simp only at hX y1
   go_enter Tryz.func104,Tryz.ntmps104
   go_wp2_with fail
   refine (rmay5_any ⟨#[]⟩ _ (by first | exact hs | decide)).mono ?_
   rintro e w1 ⟨rfl,hb1⟩
   replace hX:=hX.below hb1
   replace hbel:=hbel.trans (hb1.mono hbel.size)
   have y2:=hX.c2
   simp only at y2
   generalize validL (⟨#[]⟩ : ByteArray).data.toList = va at *
   go_wp2_with fail
   refine (rmay5_any ⟨#[]⟩ _ (by first | exact hs2 | decide)).mono ?_
   rintro e w2 ⟨rfl,hb2⟩
   replace hX:=hX.below hb2
   replace hbel:=hbel.trans (hb2.mono hbel.size)
   have z0:=hX.c0
   have z1:=hX.c1
   have z2:=hX.c2
   simp only at z0 z1 z2
   clear y1 y2
   go_wp2_with fail
   go_ret
   exact ⟨rfl,hbel⟩
  ·have hX:=EvAt.new w (⟨9,⟨#[]⟩,⟨#[]⟩⟩ : Ev)
   have hbel:=(Below.refl w.heap.size w).alloc (Nat.le_refl _) (.cells #[.int .i64 9,.string ⟨#[]⟩,.string ⟨#[]⟩] 67)
   have y1:=hX.c1
   simp only at hX y1
   go_enter Tryz.func104,Tryz.ntmps104
   go_wp2_with fail
   refine (rmay5_any ⟨#[]⟩ _ (by first | exact hs | decide)).mono ?_
   rintro e w1 ⟨rfl,hb1⟩
   replace hX:=hX.below hb1
   replace hbel:=hbel.trans (hb1.mono hbel.size)
   have y2:=hX.c2
   simp only at y2
   generalize validL (⟨#[]⟩ : ByteArray).data.toList = va at *
   go_wp2_with fail
   refine (rmay5_any ⟨#[]⟩ _ (by first | exact hs2 | decide)).mono ?_
   rintro e w2 ⟨rfl,hb2⟩
   replace hX:=hX.below hb2
   replace hbel:=hbel.trans (hb2.mono hbel.size)
   have z0:=hX.c0
   have z1:=hX.c1
   have z2:=hX.c2
   simp only at z0 z1 z2
   clear y1 y2
   go_wp2_with fail
   go_ret
   exact ⟨rfl,hbel⟩
  ·have hX:=EvAt.new w (⟨12,⟨#[]⟩,⟨#[]⟩⟩ : Ev)
   have hbel:=(Below.refl w.heap.size w).alloc (Nat.le_refl _) (.cells #[.int .i64 12,.string ⟨#[]⟩,.string ⟨#[]⟩] 67)
   have y1:=hX.c1
   simp only at hX y1
   go_enter Tryz.func104,Tryz.ntmps104
   go_wp2_with fail
   refine (rmay5_any ⟨#[]⟩ _ (by first | exact hs | decide)).mono ?_
   rintro e w1 ⟨rfl,hb1⟩
   replace hX:=hX.below hb1
   replace hbel:=hbel.trans (hb1.mono hbel.size)
   have y2:=hX.c2
   simp only at y2
   generalize validL (⟨#[]⟩ : ByteArray).data.toList = va at *
   go_wp2_with fail
   refine (rmay5_any ⟨#[]⟩ _ (by first | exact hs2 | decide)).mono ?_
   rintro e w2 ⟨rfl,hb2⟩
   replace hX:=hX.below hb2
   replace hbel:=hbel.trans (hb2.mono hbel.size)
   have z0:=hX.c0
   have z1:=hX.c1
   have z2:=hX.c2
   simp only at z0 z1 z2
   clear y1 y2
   go_wp2_with fail
   go_ret
   exact ⟨rfl,hbel⟩
 ·have n1:=str_ne ht
  have n2:=str_ne2 ht
  rw [emptyT_no ht]
  clear ht
  rcases h with rfl | rfl | rfl | rfl | rfl | rfl
  ·have hX:=EvAt.new w (⟨1,t,⟨#[]⟩⟩ : Ev)
   have hbel:=(Below.refl w.heap.size w).alloc (Nat.le_refl _) (.cells #[.int .i64 1,.string t,.string ⟨#[]⟩] 67)
   have y1:=hX.c1
   simp only at hX y1
   go_enter Tryz.func104,Tryz.ntmps104
   go_wp2_with fail
   refine (rmay5_any t _ (by first | exact hs | decide)).mono ?_
   rintro e w1 ⟨rfl,hb1⟩
   replace hX:=hX.below hb1
   replace hbel:=hbel.trans (hb1.mono hbel.size)
   have y2:=hX.c2
   simp only at y2
   generalize validL t.data.toList = va at *
   go_wp2_with fail
   refine (rmay5_any ⟨#[]⟩ _ (by first | exact hs2 | decide)).mono ?_
   rintro e w2 ⟨rfl,hb2⟩
   replace hX:=hX.below hb2
   replace hbel:=hbel.trans (hb2.mono hbel.size)
   have z0:=hX.c0
   have z1:=hX.c1
   have z2:=hX.c2
   simp only at z0 z1 z2
   clear y1 y2
   go_wp2_with fail
   go_ret
   exact ⟨rfl,hbel⟩
  ·have hX:=EvAt.new w (⟨5,t,⟨#[]⟩⟩ : Ev)
   have hbel:=(Below.refl w.heap.size w).alloc (Nat.le_refl _) (.cells #[.int .i64 5,.string t,.string ⟨#[]⟩] 67)
   have y1:=hX.c1
   simp only at hX y1
   go_enter Tryz.func104,Tryz.ntmps104
   go_wp2_with fail
   refine (rmay5_any t _ (by first | exact hs | decide)).mono ?_
   rintro e w1 ⟨rfl,hb1⟩
   replace hX:=hX.below hb1
   replace hbel:=hbel.trans (hb1.mono hbel.size)
   have y2:=hX.c2
   simp only at y2
   generalize validL t.data.toList = va at *
   go_wp2_with fail
   refine (rmay5_any ⟨#[]⟩ _ (by first | exact hs2 | decide)).mono ?_
   rintro e w2 ⟨rfl,hb2⟩
   replace hX:=hX.below hb2
   replace hbel:=hbel.trans (hb2.mono hbel.size)
   have z0:=hX.c0
   have z1:=hX.c1
   have z2:=hX.c2
   simp only at z0 z1 z2
   clear y1 y2
   go_wp2_with fail
   go_ret
   exact ⟨rfl,hbel⟩
  ·have hX:=EvAt.new w (⟨6,t,⟨#[]⟩⟩ : Ev)
   have hbel:=(Below.refl w.heap.size w).alloc (Nat.le_refl _) (.cells #[.int .i64 6,.string t,.string ⟨#[]⟩] 67)
   have y1:=hX.c1
   simp only at hX y1
   go_enter Tryz.func104,Tryz.ntmps104
   go_wp2_with fail
   refine (rmay5_any t _ (by first | exact hs | decide)).mono ?_
   rintro e w1 ⟨rfl,hb1⟩
   replace hX:=hX.below hb1
   replace hbel:=hbel.trans (hb1.mono hbel.size)
   have y2:=hX.c2
   simp only at y2
   generalize validL t.data.toList = va at *
   go_wp2_with fail
   refine (rmay5_any ⟨#[]⟩ _ (by first | exact hs2 | decide)).mono ?_
   rintro e w2 ⟨rfl,hb2⟩
   replace hX:=hX.below hb2
   replace hbel:=hbel.trans (hb2.mono hbel.size)
   have z0:=hX.c0
   have z1:=hX.c1
   have z2:=hX.c2
   simp only at z0 z1 z2
   clear y1 y2
   go_wp2_with fail
   go_ret
   exact ⟨rfl,hbel⟩
  ·have hX:=EvAt.new w (⟨7,t,⟨#[]⟩⟩ : Ev)
   have hbel:=(Below.refl w.heap.size w).alloc (Nat.le_refl _) (.cells #[.int .i64 7,.string t,.string ⟨#[]⟩] 67)
   have y1:=hX.c1
   simp only at hX y1
   go_enter Tryz.func104,Tryz.ntmps104
   go_wp2_with fail
   refine (rmay5_any t _ (by first | exact hs | decide)).mono ?_
   rintro e w1 ⟨rfl,hb1⟩
   replace hX:=hX.below hb1
   replace hbel:=hbel.trans (hb1.mono hbel.size)
   have y2:=hX.c2
   simp only at y2
   generalize validL t.data.toList = va at *
   go_wp2_with fail
   refine (rmay5_any ⟨#[]⟩ _ (by first | exact hs2 | decide)).mono ?_
   rintro e w2 ⟨rfl,hb2⟩
   replace hX:=hX.below hb2
   replace hbel:=hbel.trans (hb2.mono hbel.size)
   have z0:=hX.c0
   have z1:=hX.c1
   have z2:=hX.c2
   simp only at z0 z1 z2
   clear y1 y2
   go_wp2_with fail
   go_ret
   exact ⟨rfl,hbel⟩
  ·have hX:=EvAt.new w (⟨9,t,⟨#[]⟩⟩ : Ev)
   have hbel:=(Below.refl w.heap.size w).alloc (Nat.le_refl _) (.cells #[.int .i64 9,.string t,.string ⟨#[]⟩] 67)
   have y1:=hX.c1
   simp only at hX y1
   go_enter Tryz.func104,Tryz.ntmps104
   go_wp2_with fail
   refine (rmay5_any t _ (by first | exact hs | decide)).mono ?_
   rintro e w1 ⟨rfl,hb1⟩
   replace hX:=hX.below hb1
   replace hbel:=hbel.trans (hb1.mono hbel.size)
   have y2:=hX.c2
   simp only at y2
   generalize validL t.data.toList = va at *
   go_wp2_with fail
   refine (rmay5_any ⟨#[]⟩ _ (by first | exact hs2 | decide)).mono ?_
   rintro e w2 ⟨rfl,hb2⟩
   replace hX:=hX.below hb2
   replace hbel:=hbel.trans (hb2.mono hbel.size)
   have z0:=hX.c0
   have z1:=hX.c1
   have z2:=hX.c2
   simp only at z0 z1 z2
   clear y1 y2
   go_wp2_with fail
   go_ret
   exact ⟨rfl,hbel⟩
  ·have hX:=EvAt.new w (⟨12,t,⟨#[]⟩⟩ : Ev)
   have hbel:=(Below.refl w.heap.size w).alloc (Nat.le_refl _) (.cells #[.int .i64 12,.string t,.string ⟨#[]⟩] 67)
   have y1:=hX.c1
   simp only at hX y1
   go_enter Tryz.func104,Tryz.ntmps104
   go_wp2_with fail
   refine (rmay5_any t _ (by first | exact hs | decide)).mono ?_
   rintro e w1 ⟨rfl,hb1⟩
   replace hX:=hX.below hb1
   replace hbel:=hbel.trans (hb1.mono hbel.size)
   have y2:=hX.c2
   simp only at y2
   generalize validL t.data.toList = va at *
   go_wp2_with fail
   refine (rmay5_any ⟨#[]⟩ _ (by first | exact hs2 | decide)).mono ?_
   rintro e w2 ⟨rfl,hb2⟩
   replace hX:=hX.below hb2
   replace hbel:=hbel.trans (hb2.mono hbel.size)
   have z0:=hX.c0
   have z1:=hX.c1
   have z2:=hX.c2
   simp only at z0 z1 z2
   clear y1 y2
   go_wp2_with fail
   go_ret
   exact ⟨rfl,hbel⟩
set_option maxHeartbeats 8000000 in
theorem right_bool (h : x.k = 2) (hv : x.v.size = 0) (hs : x.t.size <= 1099511627776) : Calls Tryz.prog 104 #[evV x] w (FPost x w):=by
 have hF : formedB x = (emptyT x.v && boolL x.t.data.toList):=by unfold formedB; rw [h,if_neg (by decide),if_pos rfl]
 unfold FPost evV
 rw [hF]
 clear hF
 obtain ⟨k,t,v⟩:=x
 simp only at h hv hs ⊢
 obtain rfl:=str_nil hv
 subst h
 rw [emptyT_nil,Bool.true_and]
 have hs2 : (⟨#[]⟩ : ByteArray).size <= 1099511627776:=by decide
 by_cases h1 : t = ⟨#[116,114,117,101]⟩
 ·subst h1
  have hX:=EvAt.new w (⟨2,⟨#[116,114,117,101]⟩,⟨#[]⟩⟩ : Ev)
  have hbel:=(Below.refl w.heap.size w).alloc (Nat.le_refl _) (.cells #[.int .i64 2,.string ⟨#[116,114,117,101]⟩,.string ⟨#[]⟩] 67)
  have y1:=hX.c1
  simp only at hX y1
  go_enter Tryz.func104,Tryz.ntmps104
  go_wp2_with fail
  refine (rmay5_any ⟨#[116,114,117,101]⟩ _ (by first | exact hs | decide)).mono ?_
  rintro e w1 ⟨rfl,hb1⟩
  replace hX:=hX.below hb1
  replace hbel:=hbel.trans (hb1.mono hbel.size)
  have y2:=hX.c2
  simp only at y2
  generalize validL (⟨#[116,114,117,101]⟩ : ByteArray).data.toList = va at *
  go_wp2_with fail
  refine (rmay5_any ⟨#[]⟩ _ (by first | exact hs2 | decide)).mono ?_
  rintro e w2 ⟨rfl,hb2⟩
  replace hX:=hX.below hb2
  replace hbel:=hbel.trans (hb2.mono hbel.size)
  have z0:=hX.c0
  have z1:=hX.c1
  have z2:=hX.c2
  simp only at z0 z1 z2
  clear y1 y2
  go_wp2_with fail
  go_ret
  exact ⟨rfl,hbel⟩
 ·by_cases h2 : t = ⟨#[102,97,108,115,101]⟩
  ·subst h2
   have hX:=EvAt.new w (⟨2,⟨#[102,97,108,115,101]⟩,⟨#[]⟩⟩ : Ev)
   have hbel:=(Below.refl w.heap.size w).alloc (Nat.le_refl _) (.cells #[.int .i64 2,.string ⟨#[102,97,108,115,101]⟩,.string ⟨#[]⟩] 67)
   have y1:=hX.c1
   simp only at hX y1
   go_enter Tryz.func104,Tryz.ntmps104
   go_wp2_with fail
   refine (rmay5_any ⟨#[102,97,108,115,101]⟩ _ (by first | exact hs | decide)).mono ?_
   rintro e w1 ⟨rfl,hb1⟩
   replace hX:=hX.below hb1
   replace hbel:=hbel.trans (hb1.mono hbel.size)
   have y2:=hX.c2
   simp only at y2
   generalize validL (⟨#[102,97,108,115,101]⟩ : ByteArray).data.toList = va at *
   go_wp2_with fail
   refine (rmay5_any ⟨#[]⟩ _ (by first | exact hs2 | decide)).mono ?_
   rintro e w2 ⟨rfl,hb2⟩
   replace hX:=hX.below hb2
   replace hbel:=hbel.trans (hb2.mono hbel.size)
   have z0:=hX.c0
   have z1:=hX.c1
   have z2:=hX.c2
   simp only at z0 z1 z2
   clear y1 y2
   go_wp2_with fail
   go_ret
   exact ⟨rfl,hbel⟩
  ·have e1 : boolL t.data.toList = false:=by
    unfold boolL
    rw [decide_eq_false (fun e => h1 (ByteArray.ext (by have:=congrArg List.toArray e; simpa using this))),decide_eq_false (fun e => h2 (ByteArray.ext (by have:=congrArg List.toArray e; simpa using this)))]
    rfl
   rw [e1]
   obtain ⟨m1,m2⟩:=str_diff h1
   obtain ⟨m3,m4⟩:=str_diff h2
   simp at m2 m4
   have m5 : (t.toList == [116,114,117,101]) = false:=by simpa using m2
   have m6 : (t.toList == [102,97,108,115,101]) = false:=by simpa using m4
   clear h1 h2 e1 m1 m3
   have hX:=EvAt.new w (⟨2,t,⟨#[]⟩⟩ : Ev)
   have hbel:=(Below.refl w.heap.size w).alloc (Nat.le_refl _) (.cells #[.int .i64 2,.string t,.string ⟨#[]⟩] 67)
   have y1:=hX.c1
   simp only at hX y1
   go_enter Tryz.func104,Tryz.ntmps104
   go_wp2_with fail
   refine (rmay5_any t _ (by first | exact hs | decide)).mono ?_
   rintro e w1 ⟨rfl,hb1⟩
   replace hX:=hX.below hb1
   replace hbel:=hbel.trans (hb1.mono hbel.size)
   have y2:=hX.c2
   simp only at y2
   generalize validL t.data.toList = va at *
   go_wp2_with fail
   refine (rmay5_any ⟨#[]⟩ _ (by first | exact hs2 | decide)).mono ?_
   rintro e w2 ⟨rfl,hb2⟩
   replace hX:=hX.below hb2
   replace hbel:=hbel.trans (hb2.mono hbel.size)
   have z0:=hX.c0
   have z1:=hX.c1
   have z2:=hX.c2
   simp only at z0 z1 z2
   clear y1 y2
   go_wp2_with fail
   go_ret
   exact ⟨rfl,hbel⟩
set_option maxHeartbeats 4000000 in
theorem right_num (h : x.k = 3) (hv : x.v.size = 0) (hs : x.t.size <= 1099511627776) : Calls Tryz.prog 104 #[evV x] w (FPost x w):=by
 have hF : formedB x = (emptyT x.v && normL x.t.data.toList):=by unfold formedB; rw [h,if_neg (by decide),if_neg (by decide),if_pos rfl]
 unfold FPost evV
 rw [hF]
 clear hF
 obtain ⟨k,t,v⟩:=x
 simp only at h hv hs ⊢
 obtain rfl:=str_nil hv
 subst h
 rw [emptyT_nil,Bool.true_and]
 have hs2 : (⟨#[]⟩ : ByteArray).size <= 1099511627776:=by decide
 have hX:=EvAt.new w (⟨3,t,⟨#[]⟩⟩ : Ev)
 have hbel:=(Below.refl w.heap.size w).alloc (Nat.le_refl _) (.cells #[.int .i64 3,.string t,.string ⟨#[]⟩] 67)
 have y1:=hX.c1
 simp only at hX y1
 go_enter Tryz.func104,Tryz.ntmps104
 go_wp2_with fail
 refine (rmay5_any t _ (by first | exact hs | decide)).mono ?_
 rintro e w1 ⟨rfl,hb1⟩
 replace hX:=hX.below hb1
 replace hbel:=hbel.trans (hb1.mono hbel.size)
 have y2:=hX.c2
 simp only at y2
 generalize validL t.data.toList = va at *
 go_wp2_with fail
 refine (rmay5_any ⟨#[]⟩ _ (by first | exact hs2 | decide)).mono ?_
 rintro e w2 ⟨rfl,hb2⟩
 replace hX:=hX.below hb2
 replace hbel:=hbel.trans (hb2.mono hbel.size)
 have z0:=hX.c0
 have z1:=hX.c1
 have z2:=hX.c2
 simp only at z0 z1 z2
 clear y1 y2
 go_wp2_with (first
  | (go_at_call 141; refine (ris_any t _ (by omega)).mono ?_; rintro e w3 ⟨rfl,hb3⟩; replace hbel:=hbel.trans (hb3.mono hbel.size)))
 go_ret
 exact ⟨rfl,hbel⟩
set_option maxHeartbeats 4000000 in
theorem right_elem (h : x.k = 10) (hv : x.v.size = 0) (hs : x.t.size <= 1099511627776) : Calls Tryz.prog 104 #[evV x] w (FPost x w):=by
 have hF : formedB x = (emptyT x.v && fullL x.t.data.toList):=by unfold formedB; rw [h,if_neg (by decide),if_neg (by decide),if_neg (by decide),if_neg (by decide),if_pos rfl]
 unfold FPost evV
 rw [hF]
 clear hF
 obtain ⟨k,t,v⟩:=x
 simp only at h hv hs ⊢
 obtain rfl:=str_nil hv
 subst h
 rw [emptyT_nil,Bool.true_and]
 have hs2 : (⟨#[]⟩ : ByteArray).size <= 1099511627776:=by decide
 have hX:=EvAt.new w (⟨10,t,⟨#[]⟩⟩ : Ev)
 have hbel:=(Below.refl w.heap.size w).alloc (Nat.le_refl _) (.cells #[.int .i64 10,.string t,.string ⟨#[]⟩] 67)
 have y1:=hX.c1
 simp only at hX y1
 go_enter Tryz.func104,Tryz.ntmps104
 go_wp2_with fail
 refine (rmay5_any t _ (by first | exact hs | decide)).mono ?_
 rintro e w1 ⟨rfl,hb1⟩
 replace hX:=hX.below hb1
 replace hbel:=hbel.trans (hb1.mono hbel.size)
 have y2:=hX.c2
 simp only at y2
 generalize validL t.data.toList = va at *
 go_wp2_with fail
 refine (rmay5_any ⟨#[]⟩ _ (by first | exact hs2 | decide)).mono ?_
 rintro e w2 ⟨rfl,hb2⟩
 replace hX:=hX.below hb2
 replace hbel:=hbel.trans (hb2.mono hbel.size)
 have z0:=hX.c0
 have z1:=hX.c1
 have z2:=hX.c2
 simp only at z0 z1 z2
 clear y1 y2
 go_wp2_with (first
  | (go_at_call 140; refine (rfull_any t _ hs).mono ?_; rintro e w3 ⟨rfl,hb3⟩; replace hbel:=hbel.trans (hb3.mono hbel.size)))
 go_ret
 exact ⟨rfl,hbel⟩
set_option maxHeartbeats 4000000 in
theorem right_text (h : x.k = 4 \/ x.k = 8) (hv : x.v.size = 0) (hs : x.t.size <= 1099511627776) : Calls Tryz.prog 104 #[evV x] w (FPost x w):=by
 have hF : formedB x = (emptyT x.v && validL x.t.data.toList):=by
  unfold formedB
  rw [if_neg (by unfold bareK; rw [decide_eq_true_iff]; omega),if_neg (by omega),if_neg (by omega),if_pos h]
 unfold FPost evV
 rw [hF]
 clear hF
 obtain ⟨k,t,v⟩:=x
 simp only at h hv hs ⊢
 obtain rfl:=str_nil hv
 rw [emptyT_nil,Bool.true_and]
 have hs2 : (⟨#[]⟩ : ByteArray).size <= 1099511627776:=by decide
 obtain ⟨va,hva⟩ : ∃ b,validL t.data.toList = b:=⟨_,rfl⟩
 rw [hva]
 have HV:=Lib.hid hva
 clear hva
 rcases h with rfl | rfl
 ·have hX:=EvAt.new w (⟨4,t,⟨#[]⟩⟩ : Ev)
  have hbel:=(Below.refl w.heap.size w).alloc (Nat.le_refl _) (.cells #[.int .i64 4,.string t,.string ⟨#[]⟩] 67)
  have y1:=hX.c1
  simp only at hX y1
  go_enter Tryz.func104,Tryz.ntmps104
  go_wp2_with fail
  refine (rmay5_any t _ (by first | exact hs | decide)).mono ?_
  rintro e w1 ⟨rfl,hb1⟩
  replace hX:=hX.below hb1
  replace hbel:=hbel.trans (hb1.mono hbel.size)
  have y2:=hX.c2
  simp only at y2
  rw [HV.out]
  go_wp2_with fail
  refine (rmay5_any ⟨#[]⟩ _ (by first | exact hs2 | decide)).mono ?_
  rintro e w2 ⟨rfl,hb2⟩
  replace hX:=hX.below hb2
  replace hbel:=hbel.trans (hb2.mono hbel.size)
  have z0:=hX.c0
  have z1:=hX.c1
  have z2:=hX.c2
  simp only at z0 z1 z2
  clear y1 y2
  go_wp2_with fail
  go_ret
  exact ⟨rfl,hbel⟩
 ·have hX:=EvAt.new w (⟨8,t,⟨#[]⟩⟩ : Ev)
  have hbel:=(Below.refl w.heap.size w).alloc (Nat.le_refl _) (.cells #[.int .i64 8,.string t,.string ⟨#[]⟩] 67)
  have y1:=hX.c1
  simp only at hX y1
  go_enter Tryz.func104,Tryz.ntmps104
  go_wp2_with fail
  refine (rmay5_any t _ (by first | exact hs | decide)).mono ?_
  rintro e w1 ⟨rfl,hb1⟩
  replace hX:=hX.below hb1
  replace hbel:=hbel.trans (hb1.mono hbel.size)
  have y2:=hX.c2
  simp only at y2
  rw [HV.out]
  go_wp2_with fail
  refine (rmay5_any ⟨#[]⟩ _ (by first | exact hs2 | decide)).mono ?_
  rintro e w2 ⟨rfl,hb2⟩
  replace hX:=hX.below hb2
  replace hbel:=hbel.trans (hb2.mono hbel.size)
  have z0:=hX.c0
  have z1:=hX.c1
  have z2:=hX.c2
  simp only at z0 z1 z2
  clear y1 y2
  go_wp2_with fail
  go_ret
  exact ⟨rfl,hbel⟩
set_option maxHeartbeats 4000000 in
theorem right_other (h : bareK x.k = false /\ x.k ≠ 2 /\ x.k ≠ 3 /\ x.k ≠ 4 /\ x.k ≠ 8 /\ x.k ≠ 10 /\ x.k ≠ 11) (hv : x.v.size = 0) (hs : x.t.size <= 1099511627776) : Calls Tryz.prog 104 #[evV x] w (FPost x w):=by
 obtain ⟨h1,h2,h3,h4,h8,h10,h11⟩:=h
 have hF : formedB x = false:=by unfold formedB; rw [h1,if_neg (by decide),if_neg h2,if_neg h3,if_neg (by omega),if_neg h10,if_neg h11]
 unfold FPost evV
 rw [hF]
 clear hF
 obtain ⟨k,t,v⟩:=x
 simp only at h1 h2 h3 h4 h8 h10 h11 hv hs ⊢
 obtain rfl:=str_nil hv
 have hs2 : (⟨#[]⟩ : ByteArray).size <= 1099511627776:=by decide
 unfold bareK at h1
 rw [decide_eq_false_iff_not] at h1
 have d1 : (k == 1) = false:=ne_beq (by omega)
 have d2 : (k == 2) = false:=ne_beq (by omega)
 have d3 : (k == 3) = false:=ne_beq (by omega)
 have d4 : (k == 4) = false:=ne_beq (by omega)
 have d5 : (k == 5) = false:=ne_beq (by omega)
 have d6 : (k == 6) = false:=ne_beq (by omega)
 have d7 : (k == 7) = false:=ne_beq (by omega)
 have d8 : (k == 8) = false:=ne_beq (by omega)
 have d9 : (k == 9) = false:=ne_beq (by omega)
 have d10 : (k == 10) = false:=ne_beq (by omega)
 have d11 : (k == 11) = false:=ne_beq (by omega)
 have d12 : (k == 12) = false:=ne_beq (by omega)
 clear h1 h2 h3 h4 h8 h10 h11
 have hX:=EvAt.new w (⟨k,t,⟨#[]⟩⟩ : Ev)
 have hbel:=(Below.refl w.heap.size w).alloc (Nat.le_refl _) (.cells #[.int .i64 k,.string t,.string ⟨#[]⟩] 67)
 have y1:=hX.c1
 simp only at hX y1
 go_enter Tryz.func104,Tryz.ntmps104
 go_wp2_with fail
 refine (rmay5_any t _ (by first | exact hs | decide)).mono ?_
 rintro e w1 ⟨rfl,hb1⟩
 replace hX:=hX.below hb1
 replace hbel:=hbel.trans (hb1.mono hbel.size)
 have y2:=hX.c2
 simp only at y2
 generalize validL t.data.toList = va at *
 go_wp2_with fail
 refine (rmay5_any ⟨#[]⟩ _ (by first | exact hs2 | decide)).mono ?_
 rintro e w2 ⟨rfl,hb2⟩
 replace hX:=hX.below hb2
 replace hbel:=hbel.trans (hb2.mono hbel.size)
 have z0:=hX.c0
 have z1:=hX.c1
 have z2:=hX.c2
 simp only at z0 z1 z2
 clear y1 y2
 go_wp2_with fail
 go_ret
 exact ⟨rfl,hbel⟩
theorem right_any (hs : x.t.size <= 1099511627776) (hs2 : x.v.size <= 1099511627776) : Calls Tryz.prog 104 #[evV x] w (FPost x w):=by
 by_cases h11 : x.k = 11
 ·exact right_attr x w h11 hs hs2
 by_cases hv : x.v.size = 0
 ·cases hb : bareK x.k with
  | true => exact right_bare x w hb hv hs
  | false =>
   by_cases h2 : x.k = 2
   ·exact right_bool x w h2 hv hs
   by_cases h3 : x.k = 3
   ·exact right_num x w h3 hv hs
   by_cases h4 : x.k = 4 \/ x.k = 8
   ·exact right_text x w h4 hv hs
   by_cases h10 : x.k = 10
   ·exact right_elem x w h10 hv hs
   ·exact right_other x w ⟨hb,h2,h3,by omega,by omega,h10,h11⟩ hv hs
 ·exact right_val x w h11 hv hs hs2
end
end Go.Proofs.YtbnppjmmlfncmaaGreatDoor
