/-
  The reference's Read on every text, its Norm; the walk of NumReads.
  The reference's May, Right, At and own (hexaplaref05).
  The reference's Right (hexaplaref05): whether an event's Text and Val may be: the same answer.
-/
import Derived.Test.YtbnppjmmlfncmaaGreatDoorIrA24
import Derived.Test.YtbnppjmmlfncmaaGreatDoorIrA12
import Derived.Test.YtbnppjmmlfncmaaGreatDoorIrA22
import Derived.Test.YtbnppjmmlfncmaaGreatDoorIrA03
import Derived.Test.YtbnppjmmlfncmaaGreatDoorIrA15
import Derived.Test.YtbnppjmmlfncmaaGreatDoorIrA08
import Derived.Test.YtbnppjmmlfncmaaGreatDoorIrA20
set_option maxRecDepth 100000
set_option linter.unusedSectionVars false
namespace Go.Proofs.YtbnppjmmlfncmaaGreatDoor.Nm
open Go.RowKit
set_option maxHeartbeats 1000000 in
theorem rread_no (s : ByteArray) (w : World) (hs : s.size <= 140737488355328) (h : ¬ (isB s.data.toList = true /\ s.data.toList.length <= 30)) :
 Calls Tryz.prog 172 #[.string s] w (RPost s.data.toList w):=by
 have hps:=parts_any s
 unfold partsA at hps
 rw [parts_begins,parts_is] at hps
 have HN:=Lib.hid h
 have hcase : isB s.data.toList = false \/ (isB s.data.toList = true /\ 30 < (s.size : Int)):=by
  rw [show s.data.toList.length = s.size from by simp] at h
  cases hi : isB s.data.toList
  ·exact .inl rfl
  ·refine .inr ⟨rfl,?_⟩
   have : ¬ s.size <= 30:=fun hc => h ⟨hi,hc⟩
   omega
 clear h
 rcases hcase with hi | ⟨hi,h30⟩
 all_goals
  rw [hi] at hps
  have HPS:=Lib.hid hps
  clear hps hi
  go_enter Tryz.func172,Tryz.ntmps172
  go_wp2_with (fail)
  refine (HPS.out _ hs).mono ?_
  rintro e w1 ⟨rfl,n,rfl⟩
  have hr : Blk ((w.alloc (.cells #[.bool false,.slice none 0 0,.int .i64 0] 180)).drewN n) w.heap.size 180 #[.bool false,.slice none 0 0,.int .i64 0]:=(Blk.new w _ _).drewN n
  have hb : Below w.heap.size w ((w.alloc (.cells #[.bool false,.slice none 0 0,.int .i64 0] 180)).drewN n):=below_drewN ((Below.refl _ _).alloc (Nat.le_refl _) _) n
  generalize (w.alloc (.cells #[.bool false,.slice none 0 0,.int .i64 0] 180)).drewN n = w2 at hr hb ⊢
  have r0 : w2.cell? ⟨w.heap.size,0,none⟩ = some (.bool false):=hr.cell 0
  have r1 : w2.cell? ⟨w.heap.size,1,none⟩ = some (.slice none 0 0):=hr.cell 1
  have r2 : w2.cell? ⟨w.heap.size,2,none⟩ = some (.int .i64 0):=hr.cell 2
  have g0 : w2.frozen? ⟨w.heap.size,0,none⟩ = false:=hr.frozen 0
  have g1 : w2.frozen? ⟨w.heap.size,1,none⟩ = false:=hr.frozen 1
  have g2 : w2.frozen? ⟨w.heap.size,2,none⟩ = false:=hr.frozen 2
  go_wp2
  (try simp only [Exit.inBlock,Exit.then])
  refine bodyPost_ret (v:=.tuple #[.agg #[.bool false,.slice none 0 0,.int .i64 0],.bool false]) (by simp [results,Tryz.results172,go_sem,r0,r1,r2]) rfl (rpost_none HN.out ?_ rfl)
  repeat (first | exact hb | refine Below.setCell ?_ (by simp) _)
theorem rread_any (s : ByteArray) (w : World) (hs : s.size <= 140737488355328) :
 Calls Tryz.prog 172 #[.string s] w (RPost s.data.toList w):=by
 by_cases h : isB s.data.toList = true /\ s.data.toList.length <= 30
 ·exact rread_is s w (by have:=h.2; simpa using this) h.1
 ·exact rread_no s w hs h
set_option maxHeartbeats 1000000 in
theorem rnorm_any (s : ByteArray) (w : World) (hs : s.size <= 140737488355328) :
 Calls Tryz.prog 160 #[.string s] w fun e w' => e = .returned (.tuple #[.string (readS s.data.toList),.int .i64 (readC s.data.toList)]) /\ Below w.heap.size w w':=by
 cases h : readL s.data.toList with
 | none =>
  rw [readS_none h,readC_none h]
  have H:=Lib.hid h
  clear h
  go_enter Tryz.func160,Tryz.ntmps160
  go_wp2_with (fail)
  refine (rread_any s _ hs).mono ?_
  rintro e w1 ⟨hb1,hv⟩
  rw [H.out] at hv
  simp only at hv
  subst hv
  go_wp2_with (fail)
  go_ret2
  exact ⟨rfl,hb1.alloc hb1.size _⟩
 | some v =>
  rw [readS_some h,readC_some h]
  obtain ⟨v1,v2,v3,v4⟩:=okV_of h
  have hdg:=(can_of h).2.2.2
  have H:=Lib.hid h
  have HD:=Lib.hid hdg
  clear h hdg
  go_enter Tryz.func160,Tryz.ntmps160
  go_wp2_with (fail)
  refine (rread_any s _ hs).mono ?_
  rintro e w1 ⟨hb1,hv⟩
  rw [H.out] at hv
  simp only at hv
  obtain ⟨slv,rfl,hr⟩:=hv
  obtain ⟨A,cp,rfl,_⟩:=iread_d hr
  have HR:=Lib.hid hr
  have HB1:=Lib.hid hb1
  clear hr
  go_wp2_with (fail)
  have hbA : Below w1.heap.size w1 (w1.alloc (.cells #[.bool v.neg,.slice A v.digs.length cp,.int .i64 v.pow] 180)):=(Below.refl w1.heap.size w1).alloc (Nat.le_refl _) _
  refine (rform_any v (.slice A v.digs.length cp) _ ⟨by omega,by omega⟩ (by omega) HD.out (HR.out.below hbA)).mono ?_
  rintro e w2 ⟨rfl,hb2⟩
  go_wp2_with (fail)
  go_ret2
  exact ⟨rfl,HB1.out.trans ((hbA.trans (hb2.mono (by simp))).mono HB1.out.size)⟩
end Go.Proofs.YtbnppjmmlfncmaaGreatDoor.Nm
namespace Go.Proofs.YtbnppjmmlfncmaaGreatDoor
open Go.RowKit
variable [Fo]
theorem rmay5_any (s : ByteArray) (w : World) (hs : s.size <= 1099511627776) :
 Calls Tryz.prog 139 #[.string s] w fun e w' => e = .returned (.bool (validL s.data.toList)) /\ Below w.heap.size w w':=by
 have hl : s.data.toList.length = s.size:=by simp
 obtain ⟨rs,hrs⟩ : ∃ b,(runesL s.data.toList).isSome = b:=⟨_,rfl⟩
 have HR:=Lib.hid hrs
 by_cases h48 : s.size <= 48
 ·have hV : validL s.data.toList = rs:=by unfold validL; rw [hl,decide_eq_true h48,Bool.true_and,hrs]
  rw [hV]
  have h48i : decide ((s.size : Int) <= 48) = true:=decide_eq_true (by omega)
  clear hl hV hrs h48
  cases rs
  all_goals
   go_enter Tryz.func139,Tryz.ntmps139
   go_wp2_with (first
    | (go_at_call 57; refine (valid_any s _ hs).mono ?_; rintro e w1 ⟨rfl,hb1⟩; rw [HR.out]))
   go_ret
   exact ⟨rfl,hb1⟩
 ·have hV : validL s.data.toList = false:=by unfold validL; rw [hl,decide_eq_false h48]; rfl
  rw [hV]
  have h48i : decide ((s.size : Int) <= 48) = false:=decide_eq_false (by omega)
  clear hl hV hrs h48
  cases rs
  all_goals
   go_enter Tryz.func139,Tryz.ntmps139
   go_wp2_with (first
    | (go_at_call 57; refine (valid_any s _ hs).mono ?_; rintro e w1 ⟨rfl,hb1⟩; rw [HR.out]))
   go_ret
   exact ⟨rfl,hb1⟩
theorem rfull_any (s : ByteArray) (w : World) (hs : s.size <= 1099511627776) :
 Calls Tryz.prog 140 #[.string s] w fun e w' => e = .returned (.bool (fullL s.data.toList)) /\ Below w.heap.size w w':=by
 obtain ⟨x,y,hE⟩:=cutEnd_ex s.data.toList
 have HE:=Lib.hid hE
 generalize fullL s.data.toList = f at *
 clear hE
 go_enter Tryz.func140,Tryz.ntmps140
 go_wp2_with (first
  | (go_at_call 156; refine (rcut_any s _ (by omega)).mono ?_; rintro e w1 ⟨he,hb1⟩; rw [HE.out] at he; subst he))
 go_ret
 exact ⟨rfl,hb1⟩
theorem ris_any (s : ByteArray) (w : World) (hs : s.size <= 140737488355328) :
 Calls Tryz.prog 141 #[.string s] w fun e w' => e = .returned (.bool (normL s.data.toList)) /\ Below w.heap.size w w':=by
 rw [read_norm]
 have hR:=Nm.rnorm_any s w hs
 generalize Nm.readC s.data.toList = c at *
 generalize Nm.readS s.data.toList = f at *
 by_cases hc : c = 0
 ·subst hc
  by_cases hf : f = s
  ·subst hf
   simp only [decide_true,Bool.true_and]
   go_enter Tryz.func141,Tryz.ntmps141
   go_wp2_with (first
    | (go_at_call 160; refine hR.mono ?_; rintro e w1 ⟨rfl,hb1⟩))
   go_ret
   exact ⟨rfl,hb1⟩
  ·obtain ⟨n1,n2⟩:=str_diff hf
   rw [decide_eq_false hf,Bool.and_false]
   clear hf
   go_enter Tryz.func141,Tryz.ntmps141
   go_wp2_with (first
    | (go_at_call 160; refine hR.mono ?_; rintro e w1 ⟨rfl,hb1⟩))
   go_ret
   exact ⟨rfl,hb1⟩
 ·have d : (c == 0) = false:=by rw [beq_eq_false_iff_ne]; exact hc
  rw [decide_eq_false hc,Bool.false_and]
  clear hc
  go_enter Tryz.func141,Tryz.ntmps141
  go_wp2_with (first
   | (go_at_call 160; refine hR.mono ?_; rintro e w1 ⟨rfl,hb1⟩))
  go_ret
  exact ⟨rfl,hb1⟩
end Go.Proofs.YtbnppjmmlfncmaaGreatDoor
namespace Go.Proofs.YtbnppjmmlfncmaaGreatDoor
open Go.RowKit
variable [Fo]
section
variable (x : Ev) (w : World)
set_option maxHeartbeats 4000000 in
theorem right_attr (h : x.k = 11) (hs : x.t.size <= 1099511627776) (hs2 : x.v.size <= 1099511627776) : Calls Tryz.prog 104 #[evV x] w (FPost x w):=by
 have hF : formedB x = (fullL x.t.data.toList && validL x.v.data.toList):=by rw [Bool.and_comm]; unfold formedB; rw [h,if_neg (by decide),if_neg (by decide),if_neg (by decide),if_neg (by decide),if_neg (by decide),if_pos rfl]
 unfold FPost evV
 rw [hF]
 clear hF
 obtain ⟨k,t,v⟩:=x
 simp only at h hs hs2 ⊢
 subst h
 obtain ⟨ft,hft⟩ : ∃ b,fullL t.data.toList = b:=⟨_,rfl⟩
 obtain ⟨vb,hvb⟩ : ∃ b,validL v.data.toList = b:=⟨_,rfl⟩
 rw [hft,hvb]
 have HF:=Lib.hid hft
 have HV:=Lib.hid hvb
 clear hft hvb
 cases ft
 all_goals
  have hX:=EvAt.new w (⟨11,t,v⟩ : Ev)
  have hbel:=(Below.refl w.heap.size w).alloc (Nat.le_refl _) (.cells #[.int .i64 11,.string t,.string v] 67)
  have y1:=hX.c1
  simp only at hX y1
  go_enter Tryz.func104,Tryz.ntmps104
  go_wp2_with fail
  refine (rmay5_any t _ (by first | exact hs | decide)).mono ?_
  rintro e w1 ⟨rfl,hb1⟩
  replace hX:=hX.below hb1
  replace hbel:=hbel.trans (hb1.mono hbel.size)
  have y2:=hX.c2
  simp only at y2
  generalize validL t.data.toList = va at *
  go_wp2_with fail
  refine (rmay5_any v _ (by first | exact hs2 | decide)).mono ?_
  rintro e w2 ⟨rfl,hb2⟩
  rw [HV.out]
  replace hX:=hX.below hb2
  replace hbel:=hbel.trans (hb2.mono hbel.size)
  have z0:=hX.c0
  have z1:=hX.c1
  have z2:=hX.c2
  simp only at z0 z1 z2
  clear y1 y2
  go_wp2_with (first
   | (go_at_call 140; refine (rfull_any t _ hs).mono ?_; rintro e w3 ⟨rfl,hb3⟩; rw [HF.out]; replace hbel:=hbel.trans (hb3.mono hbel.size)))
  go_ret
  exact ⟨rfl,hbel⟩
set_option maxHeartbeats 4000000 in
theorem right_val (h : x.k ≠ 11) (hv : ¬ x.v.size = 0) (hs : x.t.size <= 1099511627776) (hs2 : x.v.size <= 1099511627776) : Calls Tryz.prog 104 #[evV x] w (FPost x w):=by
 have hF : formedB x = false:=by
  unfold formedB
  rw [emptyT_no hv]
  simp only [Bool.and_false,Bool.false_and]
  repeat' split
  all_goals first | rfl | (exact absurd (by assumption) h)
 unfold FPost evV
 rw [hF]
 clear hF
 obtain ⟨k,t,v⟩:=x
 simp only at h hv hs hs2 ⊢
 have d11:=ne_beq h
 have n1:=str_ne hv
 have n2:=str_ne2 hv
 clear h hv
 have hX:=EvAt.new w (⟨k,t,v⟩ : Ev)
 have hbel:=(Below.refl w.heap.size w).alloc (Nat.le_refl _) (.cells #[.int .i64 k,.string t,.string v] 67)
 have y1:=hX.c1
 simp only at hX y1
 go_enter Tryz.func104,Tryz.ntmps104
 go_wp2_with fail
 refine (rmay5_any t _ (by first | exact hs | decide)).mono ?_
 rintro e w1 ⟨rfl,hb1⟩
 replace hX:=hX.below hb1
 replace hbel:=hbel.trans (hb1.mono hbel.size)
 have y2:=hX.c2
 simp only at y2
 generalize validL t.data.toList = va at *
 go_wp2_with fail
 refine (rmay5_any v _ (by first | exact hs2 | decide)).mono ?_
 rintro e w2 ⟨rfl,hb2⟩
 replace hX:=hX.below hb2
 replace hbel:=hbel.trans (hb2.mono hbel.size)
 have z0:=hX.c0
 have z1:=hX.c1
 have z2:=hX.c2
 simp only at z0 z1 z2
 clear y1 y2
 go_wp2_with fail
 go_ret
 exact ⟨rfl,hbel⟩
set_option maxHeartbeats 8000000 in
theorem right_bare (h : bareK x.k = true) (hv : x.v.size = 0) (hs : x.t.size <= 1099511627776) : Calls Tryz.prog 104 #[evV x] w (FPost x w):=by
 have hF : formedB x = (emptyT x.t && emptyT x.v):=by unfold formedB; rw [if_pos h]
 unfold FPost evV
 rw [hF]
 clear hF
 obtain ⟨k,t,v⟩:=x
 simp only at h hv hs ⊢
 obtain rfl:=str_nil hv
 rw [emptyT_nil,Bool.and_true]
 unfold bareK at h
 rw [decide_eq_true_iff] at h
 have hs2 : (⟨#[]⟩ : ByteArray).size <= 1099511627776:=by decide
 by_cases ht : t.size = 0
 ·obtain rfl:=str_nil ht
  rw [emptyT_nil]
  rcases h with rfl | rfl | rfl | rfl | rfl | rfl
  ·have hX:=EvAt.new w (⟨1,⟨#[]⟩,⟨#[]⟩⟩ : Ev)
   have hbel:=(Below.refl w.heap.size w).alloc (Nat.le_refl _) (.cells #[.int .i64 1,.string ⟨#[]⟩,.string ⟨#[]⟩] 67)
   have y1:=hX.c1
   simp only at hX y1
   go_enter Tryz.func104,Tryz.ntmps104
   go_wp2_with fail
   refine (rmay5_any ⟨#[]⟩ _ (by first | exact hs | decide)).mono ?_
   rintro e w1 ⟨rfl,hb1⟩
   replace hX:=hX.below hb1
   replace hbel:=hbel.trans (hb1.mono hbel.size)
   have y2:=hX.c2
   simp only at y2
   generalize validL (⟨#[]⟩ : ByteArray).data.toList = va at *
   go_wp2_with fail
   refine (rmay5_any ⟨#[]⟩ _ (by first | exact hs2 | decide)).mono ?_
   rintro e w2 ⟨rfl,hb2⟩
   replace hX:=hX.below hb2
   replace hbel:=hbel.trans (hb2.mono hbel.size)
   have z0:=hX.c0
   have z1:=hX.c1
   have z2:=hX.c2
   simp only at z0 z1 z2
   clear y1 y2
   go_wp2_with fail
   go_ret
   exact ⟨rfl,hbel⟩
  ·have hX:=EvAt.new w (⟨5,⟨#[]⟩,⟨#[]⟩⟩ : Ev)
   have hbel:=(Below.refl w.heap.size w).alloc (Nat.le_refl _) (.cells #[.int .i64 5,.string ⟨#[]⟩,.string ⟨#[]⟩] 67)
   have y1:=hX.c1
   simp only at hX y1
   go_enter Tryz.func104,Tryz.ntmps104
   go_wp2_with fail
   refine (rmay5_any ⟨#[]⟩ _ (by first | exact hs | decide)).mono ?_
   rintro e w1 ⟨rfl,hb1⟩
   replace hX:=hX.below hb1
   replace hbel:=hbel.trans (hb1.mono hbel.size)
   have y2:=hX.c2
   simp only at y2
   generalize validL (⟨#[]⟩ : ByteArray).data.toList = va at *
   go_wp2_with fail
   refine (rmay5_any ⟨#[]⟩ _ (by first | exact hs2 | decide)).mono ?_
   rintro e w2 ⟨rfl,hb2⟩
   replace hX:=hX.below hb2
   replace hbel:=hbel.trans (hb2.mono hbel.size)
   have z0:=hX.c0
   have z1:=hX.c1
   have z2:=hX.c2
   simp only at z0 z1 z2
   clear y1 y2
   go_wp2_with fail
   go_ret
   exact ⟨rfl,hbel⟩
  ·have hX:=EvAt.new w (⟨6,⟨#[]⟩,⟨#[]⟩⟩ : Ev)
   have hbel:=(Below.refl w.heap.size w).alloc (Nat.le_refl _) (.cells #[.int .i64 6,.string ⟨#[]⟩,.string ⟨#[]⟩] 67)
   have y1:=hX.c1
   simp only at hX y1
   go_enter Tryz.func104,Tryz.ntmps104
   go_wp2_with fail
   refine (rmay5_any ⟨#[]⟩ _ (by first | exact hs | decide)).mono ?_
   rintro e w1 ⟨rfl,hb1⟩
   replace hX:=hX.below hb1
   replace hbel:=hbel.trans (hb1.mono hbel.size)
   have y2:=hX.c2
   simp only at y2
   generalize validL (⟨#[]⟩ : ByteArray).data.toList = va at *
   go_wp2_with fail
   refine (rmay5_any ⟨#[]⟩ _ (by first | exact hs2 | decide)).mono ?_
   rintro e w2 ⟨rfl,hb2⟩
   replace hX:=hX.below hb2
   replace hbel:=hbel.trans (hb2.mono hbel.size)
   have z0:=hX.c0
   have z1:=hX.c1
   have z2:=hX.c2
   simp only at z0 z1 z2
   clear y1 y2
   go_wp2_with fail
   go_ret
   exact ⟨rfl,hbel⟩
  ·have hX:=EvAt.new w (⟨7,⟨#[]⟩,⟨#[]⟩⟩ : Ev)
   have hbel:=(Below.refl w.heap.size w).alloc (Nat.le_refl _) (.cells #[.int .i64 7,.string ⟨#[]⟩,.string ⟨#[]⟩] 67)
   have y1:=hX.c1
   simp only at hX y1
   go_enter Tryz.func104,Tryz.ntmps104
   go_wp2_with fail
   refine (rmay5_any ⟨#[]⟩ _ (by first | exact hs | decide)).mono ?_
   rintro e w1 ⟨rfl,hb1⟩
   replace hX:=hX.below hb1
   replace hbel:=hbel.trans (hb1.mono hbel.size)
   have y2:=hX.c2
   simp only at y2
   generalize validL (⟨#[]⟩ : ByteArray).data.toList = va at *
   go_wp2_with fail
   refine (rmay5_any ⟨#[]⟩ _ (by first | exact hs2 | decide)).mono ?_
   rintro e w2 ⟨rfl,hb2⟩
   replace hX:=hX.below hb2
   replace hbel:=hbel.trans (hb2.mono hbel.size)
   have z0:=hX.c0
   have z1:=hX.c1
   have z2:=hX.c2
   simp only at z0 z1 z2
   clear y1 y2
   go_wp2_with fail
   go_ret
   exact ⟨rfl,hbel⟩
  ·have hX:=EvAt.new w (⟨9,⟨#[]⟩,⟨#[]⟩⟩ : Ev)
   have hbel:=(Below.refl w.heap.size w).alloc (Nat.le_refl _) (.cells #[.int .i64 9,.string ⟨#[]⟩,.string ⟨#[]⟩] 67)
   have y1:=hX.c1
   simp only at hX y1
   go_enter Tryz.func104,Tryz.ntmps104
   go_wp2_with fail
   refine (rmay5_any ⟨#[]⟩ _ (by first | exact hs | decide)).mono ?_
   rintro e w1 ⟨rfl,hb1⟩
   replace hX:=hX.below hb1
   replace hbel:=hbel.trans (hb1.mono hbel.size)
   have y2:=hX.c2
   simp only at y2
   generalize validL (⟨#[]⟩ : ByteArray).data.toList = va at *
   go_wp2_with fail
   refine (rmay5_any ⟨#[]⟩ _ (by first | exact hs2 | decide)).mono ?_
   rintro e w2 ⟨rfl,hb2⟩
   replace hX:=hX.below hb2
   replace hbel:=hbel.trans (hb2.mono hbel.size)
   have z0:=hX.c0
   have z1:=hX.c1
   have z2:=hX.c2
   simp only at z0 z1 z2
   clear y1 y2
   go_wp2_with fail
   go_ret
   exact ⟨rfl,hbel⟩
  ·have hX:=EvAt.new w (⟨12,⟨#[]⟩,⟨#[]⟩⟩ : Ev)
   have hbel:=(Below.refl w.heap.size w).alloc (Nat.le_refl _) (.cells #[.int .i64 12,.string ⟨#[]⟩,.string ⟨#[]⟩] 67)
   have y1:=hX.c1
   simp only at hX y1
   go_enter Tryz.func104,Tryz.ntmps104
   go_wp2_with fail
   refine (rmay5_any ⟨#[]⟩ _ (by first | exact hs | decide)).mono ?_
   rintro e w1 ⟨rfl,hb1⟩
   replace hX:=hX.below hb1
   replace hbel:=hbel.trans (hb1.mono hbel.size)
   have y2:=hX.c2
   simp only at y2
   generalize validL (⟨#[]⟩ : ByteArray).data.toList = va at *
   go_wp2_with fail
   refine (rmay5_any ⟨#[]⟩ _ (by first | exact hs2 | decide)).mono ?_
   rintro e w2 ⟨rfl,hb2⟩
   replace hX:=hX.below hb2
   replace hbel:=hbel.trans (hb2.mono hbel.size)
   have z0:=hX.c0
   have z1:=hX.c1
   have z2:=hX.c2
   simp only at z0 z1 z2
   clear y1 y2
   go_wp2_with fail
   go_ret
   exact ⟨rfl,hbel⟩
 ·have n1:=str_ne ht
  have n2:=str_ne2 ht
  rw [emptyT_no ht]
  clear ht
  rcases h with rfl | rfl | rfl | rfl | rfl | rfl
  ·have hX:=EvAt.new w (⟨1,t,⟨#[]⟩⟩ : Ev)
   have hbel:=(Below.refl w.heap.size w).alloc (Nat.le_refl _) (.cells #[.int .i64 1,.string t,.string ⟨#[]⟩] 67)
   have y1:=hX.c1
   simp only at hX y1
   go_enter Tryz.func104,Tryz.ntmps104
   go_wp2_with fail
   refine (rmay5_any t _ (by first | exact hs | decide)).mono ?_
   rintro e w1 ⟨rfl,hb1⟩
   replace hX:=hX.below hb1
   replace hbel:=hbel.trans (hb1.mono hbel.size)
   have y2:=hX.c2
   simp only at y2
   generalize validL t.data.toList = va at *
   go_wp2_with fail
   refine (rmay5_any ⟨#[]⟩ _ (by first | exact hs2 | decide)).mono ?_
   rintro e w2 ⟨rfl,hb2⟩
   replace hX:=hX.below hb2
   replace hbel:=hbel.trans (hb2.mono hbel.size)
   have z0:=hX.c0
   have z1:=hX.c1
   have z2:=hX.c2
   simp only at z0 z1 z2
   clear y1 y2
   go_wp2_with fail
   go_ret
   exact ⟨rfl,hbel⟩
  ·have hX:=EvAt.new w (⟨5,t,⟨#[]⟩⟩ : Ev)
   have hbel:=(Below.refl w.heap.size w).alloc (Nat.le_refl _) (.cells #[.int .i64 5,.string t,.string ⟨#[]⟩] 67)
   have y1:=hX.c1
   simp only at hX y1
   go_enter Tryz.func104,Tryz.ntmps104
   go_wp2_with fail
   refine (rmay5_any t _ (by first | exact hs | decide)).mono ?_
   rintro e w1 ⟨rfl,hb1⟩
   replace hX:=hX.below hb1
   replace hbel:=hbel.trans (hb1.mono hbel.size)
   have y2:=hX.c2
   simp only at y2
   generalize validL t.data.toList = va at *
   go_wp2_with fail
   refine (rmay5_any ⟨#[]⟩ _ (by first | exact hs2 | decide)).mono ?_
   rintro e w2 ⟨rfl,hb2⟩
   replace hX:=hX.below hb2
   replace hbel:=hbel.trans (hb2.mono hbel.size)
   have z0:=hX.c0
   have z1:=hX.c1
   have z2:=hX.c2
   simp only at z0 z1 z2
   clear y1 y2
   go_wp2_with fail
   go_ret
   exact ⟨rfl,hbel⟩
  ·have hX:=EvAt.new w (⟨6,t,⟨#[]⟩⟩ : Ev)
   have hbel:=(Below.refl w.heap.size w).alloc (Nat.le_refl _) (.cells #[.int .i64 6,.string t,.string ⟨#[]⟩] 67)
   have y1:=hX.c1
   simp only at hX y1
   go_enter Tryz.func104,Tryz.ntmps104
   go_wp2_with fail
   refine (rmay5_any t _ (by first | exact hs | decide)).mono ?_
   rintro e w1 ⟨rfl,hb1⟩
   replace hX:=hX.below hb1
   replace hbel:=hbel.trans (hb1.mono hbel.size)
   have y2:=hX.c2
   simp only at y2
   generalize validL t.data.toList = va at *
   go_wp2_with fail
   refine (rmay5_any ⟨#[]⟩ _ (by first | exact hs2 | decide)).mono ?_
   rintro e w2 ⟨rfl,hb2⟩
   replace hX:=hX.below hb2
   replace hbel:=hbel.trans (hb2.mono hbel.size)
   have z0:=hX.c0
   have z1:=hX.c1
   have z2:=hX.c2
   simp only at z0 z1 z2
   clear y1 y2
   go_wp2_with fail
   go_ret
   exact ⟨rfl,hbel⟩
  ·have hX:=EvAt.new w (⟨7,t,⟨#[]⟩⟩ : Ev)
   have hbel:=(Below.refl w.heap.size w).alloc (Nat.le_refl _) (.cells #[.int .i64 7,.string t,.string ⟨#[]⟩] 67)
   have y1:=hX.c1
   simp only at hX y1
   go_enter Tryz.func104,Tryz.ntmps104
   go_wp2_with fail
   refine (rmay5_any t _ (by first | exact hs | decide)).mono ?_
   rintro e w1 ⟨rfl,hb1⟩
   replace hX:=hX.below hb1
   replace hbel:=hbel.trans (hb1.mono hbel.size)
   have y2:=hX.c2
   simp only at y2
   generalize validL t.data.toList = va at *
   go_wp2_with fail
   refine (rmay5_any ⟨#[]⟩ _ (by first | exact hs2 | decide)).mono ?_
   rintro e w2 ⟨rfl,hb2⟩
   replace hX:=hX.below hb2
   replace hbel:=hbel.trans (hb2.mono hbel.size)
   have z0:=hX.c0
   have z1:=hX.c1
   have z2:=hX.c2
   simp only at z0 z1 z2
   clear y1 y2
   go_wp2_with fail
   go_ret
   exact ⟨rfl,hbel⟩
  ·have hX:=EvAt.new w (⟨9,t,⟨#[]⟩⟩ : Ev)
   have hbel:=(Below.refl w.heap.size w).alloc (Nat.le_refl _) (.cells #[.int .i64 9,.string t,.string ⟨#[]⟩] 67)
   have y1:=hX.c1
   simp only at hX y1
   go_enter Tryz.func104,Tryz.ntmps104
   go_wp2_with fail
   refine (rmay5_any t _ (by first | exact hs | decide)).mono ?_
   rintro e w1 ⟨rfl,hb1⟩
   replace hX:=hX.below hb1
   replace hbel:=hbel.trans (hb1.mono hbel.size)
   have y2:=hX.c2
   simp only at y2
   generalize validL t.data.toList = va at *
   go_wp2_with fail
   refine (rmay5_any ⟨#[]⟩ _ (by first | exact hs2 | decide)).mono ?_
   rintro e w2 ⟨rfl,hb2⟩
   replace hX:=hX.below hb2
   replace hbel:=hbel.trans (hb2.mono hbel.size)
   have z0:=hX.c0
   have z1:=hX.c1
   have z2:=hX.c2
   simp only at z0 z1 z2
   clear y1 y2
   go_wp2_with fail
   go_ret
   exact ⟨rfl,hbel⟩
  ·have hX:=EvAt.new w (⟨12,t,⟨#[]⟩⟩ : Ev)
   have hbel:=(Below.refl w.heap.size w).alloc (Nat.le_refl _) (.cells #[.int .i64 12,.string t,.string ⟨#[]⟩] 67)
   have y1:=hX.c1
   simp only at hX y1
   go_enter Tryz.func104,Tryz.ntmps104
   go_wp2_with fail
   refine (rmay5_any t _ (by first | exact hs | decide)).mono ?_
   rintro e w1 ⟨rfl,hb1⟩
   replace hX:=hX.below hb1
   replace hbel:=hbel.trans (hb1.mono hbel.size)
   have y2:=hX.c2
   simp only at y2
   generalize validL t.data.toList = va at *
   go_wp2_with fail
   refine (rmay5_any ⟨#[]⟩ _ (by first | exact hs2 | decide)).mono ?_
   rintro e w2 ⟨rfl,hb2⟩
   replace hX:=hX.below hb2
   replace hbel:=hbel.trans (hb2.mono hbel.size)
   have z0:=hX.c0
   have z1:=hX.c1
   have z2:=hX.c2
   simp only at z0 z1 z2
   clear y1 y2
   go_wp2_with fail
   go_ret
   exact ⟨rfl,hbel⟩
set_option maxHeartbeats 8000000 in
theorem right_bool (h : x.k = 2) (hv : x.v.size = 0) (hs : x.t.size <= 1099511627776) : Calls Tryz.prog 104 #[evV x] w (FPost x w):=by
 have hF : formedB x = (emptyT x.v && boolL x.t.data.toList):=by unfold formedB; rw [h,if_neg (by decide),if_pos rfl]
 unfold FPost evV
 rw [hF]
 clear hF
 obtain ⟨k,t,v⟩:=x
 simp only at h hv hs ⊢
 obtain rfl:=str_nil hv
 subst h
 rw [emptyT_nil,Bool.true_and]
 have hs2 : (⟨#[]⟩ : ByteArray).size <= 1099511627776:=by decide
 by_cases h1 : t = ⟨#[116,114,117,101]⟩
 ·subst h1
  have hX:=EvAt.new w (⟨2,⟨#[116,114,117,101]⟩,⟨#[]⟩⟩ : Ev)
  have hbel:=(Below.refl w.heap.size w).alloc (Nat.le_refl _) (.cells #[.int .i64 2,.string ⟨#[116,114,117,101]⟩,.string ⟨#[]⟩] 67)
  have y1:=hX.c1
  simp only at hX y1
  go_enter Tryz.func104,Tryz.ntmps104
  go_wp2_with fail
  refine (rmay5_any ⟨#[116,114,117,101]⟩ _ (by first | exact hs | decide)).mono ?_
  rintro e w1 ⟨rfl,hb1⟩
  replace hX:=hX.below hb1
  replace hbel:=hbel.trans (hb1.mono hbel.size)
  have y2:=hX.c2
  simp only at y2
  generalize validL (⟨#[116,114,117,101]⟩ : ByteArray).data.toList = va at *
  go_wp2_with fail
  refine (rmay5_any ⟨#[]⟩ _ (by first | exact hs2 | decide)).mono ?_
  rintro e w2 ⟨rfl,hb2⟩
  replace hX:=hX.below hb2
  replace hbel:=hbel.trans (hb2.mono hbel.size)
  have z0:=hX.c0
  have z1:=hX.c1
  have z2:=hX.c2
  simp only at z0 z1 z2
  clear y1 y2
  go_wp2_with fail
  go_ret
  exact ⟨rfl,hbel⟩
 ·by_cases h2 : t = ⟨#[102,97,108,115,101]⟩
  ·subst h2
   have hX:=EvAt.new w (⟨2,⟨#[102,97,108,115,101]⟩,⟨#[]⟩⟩ : Ev)
   have hbel:=(Below.refl w.heap.size w).alloc (Nat.le_refl _) (.cells #[.int .i64 2,.string ⟨#[102,97,108,115,101]⟩,.string ⟨#[]⟩] 67)
   have y1:=hX.c1
   simp only at hX y1
   go_enter Tryz.func104,Tryz.ntmps104
   go_wp2_with fail
   refine (rmay5_any ⟨#[102,97,108,115,101]⟩ _ (by first | exact hs | decide)).mono ?_
   rintro e w1 ⟨rfl,hb1⟩
   replace hX:=hX.below hb1
   replace hbel:=hbel.trans (hb1.mono hbel.size)
   have y2:=hX.c2
   simp only at y2
   generalize validL (⟨#[102,97,108,115,101]⟩ : ByteArray).data.toList = va at *
   go_wp2_with fail
   refine (rmay5_any ⟨#[]⟩ _ (by first | exact hs2 | decide)).mono ?_
   rintro e w2 ⟨rfl,hb2⟩
   replace hX:=hX.below hb2
   replace hbel:=hbel.trans (hb2.mono hbel.size)
   have z0:=hX.c0
   have z1:=hX.c1
   have z2:=hX.c2
   simp only at z0 z1 z2
   clear y1 y2
   go_wp2_with fail
   go_ret
   exact ⟨rfl,hbel⟩
  ·have e1 : boolL t.data.toList = false:=by
    unfold boolL
    rw [decide_eq_false (fun e => h1 (ByteArray.ext (by have:=congrArg List.toArray e; simpa using this))),decide_eq_false (fun e => h2 (ByteArray.ext (by have:=congrArg List.toArray e; simpa using this)))]
    rfl
   rw [e1]
   obtain ⟨m1,m2⟩:=str_diff h1
   obtain ⟨m3,m4⟩:=str_diff h2
   simp at m2 m4
   have m5 : (t.toList == [116,114,117,101]) = false:=by simpa using m2
   have m6 : (t.toList == [102,97,108,115,101]) = false:=by simpa using m4
   clear h1 h2 e1 m1 m3
   have hX:=EvAt.new w (⟨2,t,⟨#[]⟩⟩ : Ev)
   have hbel:=(Below.refl w.heap.size w).alloc (Nat.le_refl _) (.cells #[.int .i64 2,.string t,.string ⟨#[]⟩] 67)
   have y1:=hX.c1
   simp only at hX y1
   go_enter Tryz.func104,Tryz.ntmps104
   go_wp2_with fail
   refine (rmay5_any t _ (by first | exact hs | decide)).mono ?_
   rintro e w1 ⟨rfl,hb1⟩
   replace hX:=hX.below hb1
   replace hbel:=hbel.trans (hb1.mono hbel.size)
   have y2:=hX.c2
   simp only at y2
   generalize validL t.data.toList = va at *
   go_wp2_with fail
   refine (rmay5_any ⟨#[]⟩ _ (by first | exact hs2 | decide)).mono ?_
   rintro e w2 ⟨rfl,hb2⟩
   replace hX:=hX.below hb2
   replace hbel:=hbel.trans (hb2.mono hbel.size)
   have z0:=hX.c0
   have z1:=hX.c1
   have z2:=hX.c2
   simp only at z0 z1 z2
   clear y1 y2
   go_wp2_with fail
   go_ret
   exact ⟨rfl,hbel⟩
set_option maxHeartbeats 4000000 in
theorem right_num (h : x.k = 3) (hv : x.v.size = 0) (hs : x.t.size <= 1099511627776) : Calls Tryz.prog 104 #[evV x] w (FPost x w):=by
 have hF : formedB x = (emptyT x.v && normL x.t.data.toList):=by unfold formedB; rw [h,if_neg (by decide),if_neg (by decide),if_pos rfl]
 unfold FPost evV
 rw [hF]
 clear hF
 obtain ⟨k,t,v⟩:=x
 simp only at h hv hs ⊢
 obtain rfl:=str_nil hv
 subst h
 rw [emptyT_nil,Bool.true_and]
 have hs2 : (⟨#[]⟩ : ByteArray).size <= 1099511627776:=by decide
 have hX:=EvAt.new w (⟨3,t,⟨#[]⟩⟩ : Ev)
 have hbel:=(Below.refl w.heap.size w).alloc (Nat.le_refl _) (.cells #[.int .i64 3,.string t,.string ⟨#[]⟩] 67)
 have y1:=hX.c1
 simp only at hX y1
 go_enter Tryz.func104,Tryz.ntmps104
 go_wp2_with fail
 refine (rmay5_any t _ (by first | exact hs | decide)).mono ?_
 rintro e w1 ⟨rfl,hb1⟩
 replace hX:=hX.below hb1
 replace hbel:=hbel.trans (hb1.mono hbel.size)
 have y2:=hX.c2
 simp only at y2
 generalize validL t.data.toList = va at *
 go_wp2_with fail
 refine (rmay5_any ⟨#[]⟩ _ (by first | exact hs2 | decide)).mono ?_
 rintro e w2 ⟨rfl,hb2⟩
 replace hX:=hX.below hb2
 replace hbel:=hbel.trans (hb2.mono hbel.size)
 have z0:=hX.c0
 have z1:=hX.c1
 have z2:=hX.c2
 simp only at z0 z1 z2
 clear y1 y2
 go_wp2_with (first
  | (go_at_call 141; refine (ris_any t _ (by omega)).mono ?_; rintro e w3 ⟨rfl,hb3⟩; replace hbel:=hbel.trans (hb3.mono hbel.size)))
 go_ret
 exact ⟨rfl,hbel⟩
set_option maxHeartbeats 4000000 in
theorem right_elem (h : x.k = 10) (hv : x.v.size = 0) (hs : x.t.size <= 1099511627776) : Calls Tryz.prog 104 #[evV x] w (FPost x w):=by
 have hF : formedB x = (emptyT x.v && fullL x.t.data.toList):=by unfold formedB; rw [h,if_neg (by decide),if_neg (by decide),if_neg (by decide),if_neg (by decide),if_pos rfl]
 unfold FPost evV
 rw [hF]
 clear hF
 obtain ⟨k,t,v⟩:=x
 simp only at h hv hs ⊢
 obtain rfl:=str_nil hv
 subst h
 rw [emptyT_nil,Bool.true_and]
 have hs2 : (⟨#[]⟩ : ByteArray).size <= 1099511627776:=by decide
 have hX:=EvAt.new w (⟨10,t,⟨#[]⟩⟩ : Ev)
 have hbel:=(Below.refl w.heap.size w).alloc (Nat.le_refl _) (.cells #[.int .i64 10,.string t,.string ⟨#[]⟩] 67)
 have y1:=hX.c1
 simp only at hX y1
 go_enter Tryz.func104,Tryz.ntmps104
 go_wp2_with fail
 refine (rmay5_any t _ (by first | exact hs | decide)).mono ?_
 rintro e w1 ⟨rfl,hb1⟩
 replace hX:=hX.below hb1
 replace hbel:=hbel.trans (hb1.mono hbel.size)
 have y2:=hX.c2
 simp only at y2
 generalize validL t.data.toList = va at *
 go_wp2_with fail
 refine (rmay5_any ⟨#[]⟩ _ (by first | exact hs2 | decide)).mono ?_
 rintro e w2 ⟨rfl,hb2⟩
 replace hX:=hX.below hb2
 replace hbel:=hbel.trans (hb2.mono hbel.size)
 have z0:=hX.c0
 have z1:=hX.c1
 have z2:=hX.c2
 simp only at z0 z1 z2
 clear y1 y2
 go_wp2_with (first
  | (go_at_call 140; refine (rfull_any t _ hs).mono ?_; rintro e w3 ⟨rfl,hb3⟩; replace hbel:=hbel.trans (hb3.mono hbel.size)))
 go_ret
 exact ⟨rfl,hbel⟩
set_option maxHeartbeats 4000000 in
theorem right_text (h : x.k = 4 \/ x.k = 8) (hv : x.v.size = 0) (hs : x.t.size <= 1099511627776) : Calls Tryz.prog 104 #[evV x] w (FPost x w):=by
 have hF : formedB x = (emptyT x.v && validL x.t.data.toList):=by
  unfold formedB
  rw [if_neg (by unfold bareK; rw [decide_eq_true_iff]; omega),if_neg (by omega),if_neg (by omega),if_pos h]
 unfold FPost evV
 rw [hF]
 clear hF
 obtain ⟨k,t,v⟩:=x
 simp only at h hv hs ⊢
 obtain rfl:=str_nil hv
 rw [emptyT_nil,Bool.true_and]
 have hs2 : (⟨#[]⟩ : ByteArray).size <= 1099511627776:=by decide
 obtain ⟨va,hva⟩ : ∃ b,validL t.data.toList = b:=⟨_,rfl⟩
 rw [hva]
 have HV:=Lib.hid hva
 clear hva
 rcases h with rfl | rfl
 ·have hX:=EvAt.new w (⟨4,t,⟨#[]⟩⟩ : Ev)
  have hbel:=(Below.refl w.heap.size w).alloc (Nat.le_refl _) (.cells #[.int .i64 4,.string t,.string ⟨#[]⟩] 67)
  have y1:=hX.c1
  simp only at hX y1
  go_enter Tryz.func104,Tryz.ntmps104
  go_wp2_with fail
  refine (rmay5_any t _ (by first | exact hs | decide)).mono ?_
  rintro e w1 ⟨rfl,hb1⟩
  replace hX:=hX.below hb1
  replace hbel:=hbel.trans (hb1.mono hbel.size)
  have y2:=hX.c2
  simp only at y2
  rw [HV.out]
  go_wp2_with fail
  refine (rmay5_any ⟨#[]⟩ _ (by first | exact hs2 | decide)).mono ?_
  rintro e w2 ⟨rfl,hb2⟩
  replace hX:=hX.below hb2
  replace hbel:=hbel.trans (hb2.mono hbel.size)
  have z0:=hX.c0
  have z1:=hX.c1
  have z2:=hX.c2
  simp only at z0 z1 z2
  clear y1 y2
  go_wp2_with fail
  go_ret
  exact ⟨rfl,hbel⟩
 ·have hX:=EvAt.new w (⟨8,t,⟨#[]⟩⟩ : Ev)
  have hbel:=(Below.refl w.heap.size w).alloc (Nat.le_refl _) (.cells #[.int .i64 8,.string t,.string ⟨#[]⟩] 67)
  have y1:=hX.c1
  simp only at hX y1
  go_enter Tryz.func104,Tryz.ntmps104
  go_wp2_with fail
  refine (rmay5_any t _ (by first | exact hs | decide)).mono ?_
  rintro e w1 ⟨rfl,hb1⟩
  replace hX:=hX.below hb1
  replace hbel:=hbel.trans (hb1.mono hbel.size)
  have y2:=hX.c2
  simp only at y2
  rw [HV.out]
  go_wp2_with fail
  refine (rmay5_any ⟨#[]⟩ _ (by first | exact hs2 | decide)).mono ?_
  rintro e w2 ⟨rfl,hb2⟩
  replace hX:=hX.below hb2
  replace hbel:=hbel.trans (hb2.mono hbel.size)
  have z0:=hX.c0
  have z1:=hX.c1
  have z2:=hX.c2
  simp only at z0 z1 z2
  clear y1 y2
  go_wp2_with fail
  go_ret
  exact ⟨rfl,hbel⟩
set_option maxHeartbeats 4000000 in
theorem right_other (h : bareK x.k = false /\ x.k ≠ 2 /\ x.k ≠ 3 /\ x.k ≠ 4 /\ x.k ≠ 8 /\ x.k ≠ 10 /\ x.k ≠ 11) (hv : x.v.size = 0) (hs : x.t.size <= 1099511627776) : Calls Tryz.prog 104 #[evV x] w (FPost x w):=by
 obtain ⟨h1,h2,h3,h4,h8,h10,h11⟩:=h
 have hF : formedB x = false:=by unfold formedB; rw [h1,if_neg (by decide),if_neg h2,if_neg h3,if_neg (by omega),if_neg h10,if_neg h11]
 unfold FPost evV
 rw [hF]
 clear hF
 obtain ⟨k,t,v⟩:=x
 simp only at h1 h2 h3 h4 h8 h10 h11 hv hs ⊢
 obtain rfl:=str_nil hv
 have hs2 : (⟨#[]⟩ : ByteArray).size <= 1099511627776:=by decide
 unfold bareK at h1
 rw [decide_eq_false_iff_not] at h1
 have d1 : (k == 1) = false:=ne_beq (by omega)
 have d2 : (k == 2) = false:=ne_beq (by omega)
 have d3 : (k == 3) = false:=ne_beq (by omega)
 have d4 : (k == 4) = false:=ne_beq (by omega)
 have d5 : (k == 5) = false:=ne_beq (by omega)
 have d6 : (k == 6) = false:=ne_beq (by omega)
 have d7 : (k == 7) = false:=ne_beq (by omega)
 have d8 : (k == 8) = false:=ne_beq (by omega)
 have d9 : (k == 9) = false:=ne_beq (by omega)
 have d10 : (k == 10) = false:=ne_beq (by omega)
 have d11 : (k == 11) = false:=ne_beq (by omega)
 have d12 : (k == 12) = false:=ne_beq (by omega)
 clear h1 h2 h3 h4 h8 h10 h11
 have hX:=EvAt.new w (⟨k,t,⟨#[]⟩⟩ : Ev)
 have hbel:=(Below.refl w.heap.size w).alloc (Nat.le_refl _) (.cells #[.int .i64 k,.string t,.string ⟨#[]⟩] 67)
 have y1:=hX.c1
 simp only at hX y1
 go_enter Tryz.func104,Tryz.ntmps104
 go_wp2_with fail
 refine (rmay5_any t _ (by first | exact hs | decide)).mono ?_
 rintro e w1 ⟨rfl,hb1⟩
 replace hX:=hX.below hb1
 replace hbel:=hbel.trans (hb1.mono hbel.size)
 have y2:=hX.c2
 simp only at y2
 generalize validL t.data.toList = va at *
 go_wp2_with fail
 refine (rmay5_any ⟨#[]⟩ _ (by first | exact hs2 | decide)).mono ?_
 rintro e w2 ⟨rfl,hb2⟩
 replace hX:=hX.below hb2
 replace hbel:=hbel.trans (hb2.mono hbel.size)
 have z0:=hX.c0
 have z1:=hX.c1
 have z2:=hX.c2
 simp only at z0 z1 z2
 clear y1 y2
 go_wp2_with fail
 go_ret
 exact ⟨rfl,hbel⟩
theorem right_any (hs : x.t.size <= 1099511627776) (hs2 : x.v.size <= 1099511627776) : Calls Tryz.prog 104 #[evV x] w (FPost x w):=by
 by_cases h11 : x.k = 11
 ·exact right_attr x w h11 hs hs2
 by_cases hv : x.v.size = 0
 ·cases hb : bareK x.k with
  | true => exact right_bare x w hb hv hs
  | false =>
   by_cases h2 : x.k = 2
   ·exact right_bool x w h2 hv hs
   by_cases h3 : x.k = 3
   ·exact right_num x w h3 hv hs
   by_cases h4 : x.k = 4 \/ x.k = 8
   ·exact right_text x w h4 hv hs
   by_cases h10 : x.k = 10
   ·exact right_elem x w h10 hv hs
   ·exact right_other x w ⟨hb,h2,h3,by omega,by omega,h10,h11⟩ hv hs
 ·exact right_val x w h11 hv hs hs2
end
end Go.Proofs.YtbnppjmmlfncmaaGreatDoor
