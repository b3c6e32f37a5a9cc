/-
  The reference's Read on every text, its Norm; the walk of NumReads.
  The reference's May, Right, At and own (hexaplaref05).
-/
import Derived.Test.YtbnppjmmlfncmaaGreatDoorIsA28
import Derived.Test.YtbnppjmmlfncmaaGreatDoorIsA14
import Derived.Test.YtbnppjmmlfncmaaGreatDoorIsA26
import Derived.Test.YtbnppjmmlfncmaaGreatDoorIsA04
import Derived.Test.YtbnppjmmlfncmaaGreatDoorIsA18
import Derived.Test.YtbnppjmmlfncmaaGreatDoorIsA09
import Derived.Test.YtbnppjmmlfncmaaGreatDoorIsA24
set_option maxRecDepth 100000
namespace Go.Proofs.YtbnppjmmlfncmaaGreatDoor.Nm
open Go.RowKit
set_option maxHeartbeats 1000000 in
theorem rread_no (s : ByteArray) (w : World) (hs : s.size <= 140737488355328) (h : ¬ (isB s.data.toList = true /\ s.data.toList.length <= 30)) :
 Calls Tryz.prog 172 #[.string s] w (RPost s.data.toList w):=by
 have hps:=parts_any s
 unfold partsA at hps
 rw [parts_begins,parts_is] at hps
 have HN:=Lib.hid h
 have hcase : isB s.data.toList = false \/ (isB s.data.toList = true /\ 30 < (s.size : Int)):=by
  rw [show s.data.toList.length = s.size from by simp] at h
  cases hi : isB s.data.toList
  ·exact .inl rfl
  ·refine .inr ⟨rfl,?_⟩
   have : ¬ s.size <= 30:=fun hc => h ⟨hi,hc⟩
   omega
 clear h
 rcases hcase with hi | ⟨hi,h30⟩
 all_goals
  rw [hi] at hps
  have HPS:=Lib.hid hps
  clear hps hi
  go_enter Tryz.func172,Tryz.ntmps172
  go_wp2_with (fail)
  refine (HPS.out _ hs).mono ?_
  rintro e w1 ⟨rfl,n,rfl⟩
  have hr : Blk ((w.alloc (.cells #[.bool false,.slice none 0 0,.int .i64 0] 180)).drewN n) w.heap.size 180 #[.bool false,.slice none 0 0,.int .i64 0]:=(Blk.new w _ _).drewN n
  have hb : Below w.heap.size w ((w.alloc (.cells #[.bool false,.slice none 0 0,.int .i64 0] 180)).drewN n):=below_drewN ((Below.refl _ _).alloc (Nat.le_refl _) _) n
  generalize (w.alloc (.cells #[.bool false,.slice none 0 0,.int .i64 0] 180)).drewN n = w2 at hr hb ⊢
  have r0 : w2.cell? ⟨w.heap.size,0,none⟩ = some (.bool false):=hr.cell 0
  have r1 : w2.cell? ⟨w.heap.size,1,none⟩ = some (.slice none 0 0):=hr.cell 1
  have r2 : w2.cell? ⟨w.heap.size,2,none⟩ = some (.int .i64 0):=hr.cell 2
  have g0 : w2.frozen? ⟨w.heap.size,0,none⟩ = false:=hr.frozen 0
  have g1 : w2.frozen? ⟨w.heap.size,1,none⟩ = false:=hr.frozen 1
  have g2 : w2.frozen? ⟨w.heap.size,2,none⟩ = false:=hr.frozen 2
  go_wp2
  (try simp only [Exit.inBlock,Exit.then])
  refine bodyPost_ret (v:=.tuple #[.agg #[.bool false,.slice none 0 0,.int .i64 0],.bool false]) (by simp [results,Tryz.results172,go_sem,r0,r1,r2]) rfl (rpost_none HN.out ?_ rfl)
  repeat (first | exact hb | refine Below.setCell ?_ (by simp) _)
theorem rread_any (s : ByteArray) (w : World) (hs : s.size <= 140737488355328) :
 Calls Tryz.prog 172 #[.string s] w (RPost s.data.toList w):=by
 by_cases h : isB s.data.toList = true /\ s.data.toList.length <= 30
 ·exact rread_is s w (by have:=h.2; simpa using this) h.1
 ·exact rread_no s w hs h
set_option maxHeartbeats 1000000 in
theorem rnorm_any (s : ByteArray) (w : World) (hs : s.size <= 140737488355328) :
 Calls Tryz.prog 160 #[.string s] w fun e w' => e = .returned (.tuple #[.string (readS s.data.toList),.int .i64 (readC s.data.toList)]) /\ Below w.heap.size w w':=by
 cases h : readL s.data.toList with
 | none =>
  rw [readS_none h,readC_none h]
  have H:=Lib.hid h
  clear h
  go_enter Tryz.func160,Tryz.ntmps160
  go_wp2_with (fail)
  refine (rread_any s _ hs).mono ?_
  rintro e w1 ⟨hb1,hv⟩
  rw [H.out] at hv
  simp only at hv
  subst hv
  go_wp2_with (fail)
  go_ret2
  exact ⟨rfl,hb1.alloc hb1.size _⟩
 | some v =>
  rw [readS_some h,readC_some h]
  obtain ⟨v1,v2,v3,v4⟩:=okV_of h
  have hdg:=(can_of h).2.2.2
  have H:=Lib.hid h
  have HD:=Lib.hid hdg
  clear h hdg
  go_enter Tryz.func160,Tryz.ntmps160
  go_wp2_with (fail)
  refine (rread_any s _ hs).mono ?_
  rintro e w1 ⟨hb1,hv⟩
  rw [H.out] at hv
  simp only at hv
  obtain ⟨slv,rfl,hr⟩:=hv
  obtain ⟨A,cp,rfl,_⟩:=iread_d hr
  have HR:=Lib.hid hr
  have HB1:=Lib.hid hb1
  clear hr
  go_wp2_with (fail)
  have hbA : Below w1.heap.size w1 (w1.alloc (.cells #[.bool v.neg,.slice A v.digs.length cp,.int .i64 v.pow] 180)):=(Below.refl w1.heap.size w1).alloc (Nat.le_refl _) _
  refine (rform_any v (.slice A v.digs.length cp) _ ⟨by omega,by omega⟩ (by omega) HD.out (HR.out.below hbA)).mono ?_
  rintro e w2 ⟨rfl,hb2⟩
  go_wp2_with (fail)
  go_ret2
  exact ⟨rfl,HB1.out.trans ((hbA.trans (hb2.mono (by simp))).mono HB1.out.size)⟩
end Go.Proofs.YtbnppjmmlfncmaaGreatDoor.Nm
namespace Go.Proofs.YtbnppjmmlfncmaaGreatDoor
open Go.RowKit
theorem rmay5_any (s : ByteArray) (w : World) (hs : s.size <= 1099511627776) :
 Calls Tryz.prog 139 #[.string s] w fun e w' => e = .returned (.bool (validL s.data.toList)) /\ Below w.heap.size w w':=by
 have hl : s.data.toList.length = s.size:=by simp
 obtain ⟨rs,hrs⟩ : ∃ b,(runesL s.data.toList).isSome = b:=⟨_,rfl⟩
 have HR:=Lib.hid hrs
 by_cases h48 : s.size <= 48
 ·have hV : validL s.data.toList = rs:=by unfold validL; rw [hl,decide_eq_true h48,Bool.true_and,hrs]
  rw [hV]
  have h48i : decide ((s.size : Int) <= 48) = true:=decide_eq_true (by omega)
  clear hl hV hrs h48
  cases rs
  all_goals
   go_enter Tryz.func139,Tryz.ntmps139
   go_wp2_with (first
    | (go_at_call 57; refine (valid_any s _ hs).mono ?_; rintro e w1 ⟨rfl,hb1⟩; rw [HR.out]))
   go_ret
   exact ⟨rfl,hb1⟩
 ·have hV : validL s.data.toList = false:=by unfold validL; rw [hl,decide_eq_false h48]; rfl
  rw [hV]
  have h48i : decide ((s.size : Int) <= 48) = false:=decide_eq_false (by omega)
  clear hl hV hrs h48
  cases rs
  all_goals
   go_enter Tryz.func139,Tryz.ntmps139
   go_wp2_with (first
    | (go_at_call 57; refine (valid_any s _ hs).mono ?_; rintro e w1 ⟨rfl,hb1⟩; rw [HR.out]))
   go_ret
   exact ⟨rfl,hb1⟩
theorem rfull_any (s : ByteArray) (w : World) (hs : s.size <= 1099511627776) :
 Calls Tryz.prog 140 #[.string s] w fun e w' => e = .returned (.bool (fullL s.data.toList)) /\ Below w.heap.size w w':=by
 obtain ⟨x,y,hE⟩:=cutEnd_ex s.data.toList
 have HE:=Lib.hid hE
 generalize fullL s.data.toList = f at *
 clear hE
 go_enter Tryz.func140,Tryz.ntmps140
 go_wp2_with (first
  | (go_at_call 156; refine (rcut_any s _ (by omega)).mono ?_; rintro e w1 ⟨he,hb1⟩; rw [HE.out] at he; subst he))
 go_ret
 exact ⟨rfl,hb1⟩
theorem ris_any (s : ByteArray) (w : World) (hs : s.size <= 140737488355328) :
 Calls Tryz.prog 141 #[.string s] w fun e w' => e = .returned (.bool (normL s.data.toList)) /\ Below w.heap.size w w':=by
 rw [read_norm]
 have hR:=Nm.rnorm_any s w hs
 generalize Nm.readC s.data.toList = c at *
 generalize Nm.readS s.data.toList = f at *
 by_cases hc : c = 0
 ·subst hc
  by_cases hf : f = s
  ·subst hf
   simp only [decide_true,Bool.true_and]
   go_enter Tryz.func141,Tryz.ntmps141
   go_wp2_with (first
    | (go_at_call 160; refine hR.mono ?_; rintro e w1 ⟨rfl,hb1⟩))
   go_ret
   exact ⟨rfl,hb1⟩
  ·obtain ⟨n1,n2⟩:=str_diff hf
   rw [decide_eq_false hf,Bool.and_false]
   clear hf
   go_enter Tryz.func141,Tryz.ntmps141
   go_wp2_with (first
    | (go_at_call 160; refine hR.mono ?_; rintro e w1 ⟨rfl,hb1⟩))
   go_ret
   exact ⟨rfl,hb1⟩
 ·have d : (c == 0) = false:=by rw [beq_eq_false_iff_ne]; exact hc
  rw [decide_eq_false hc,Bool.false_and]
  clear hc
  go_enter Tryz.func141,Tryz.ntmps141
  go_wp2_with (first
   | (go_at_call 160; refine hR.mono ?_; rintro e w1 ⟨rfl,hb1⟩))
  go_ret
  exact ⟨rfl,hb1⟩
end Go.Proofs.YtbnppjmmlfncmaaGreatDoor
