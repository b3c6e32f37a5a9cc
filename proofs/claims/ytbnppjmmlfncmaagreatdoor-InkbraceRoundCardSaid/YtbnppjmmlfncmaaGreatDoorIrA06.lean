/-
  quote: digit and Step: what a byte does is the machine's step.
  quote: Step is the machine's step; the steps of a text.
  New, Step and Whole: a Scan is a block of three cells; a step turns that block alone.
  A text stepped through, byte by byte, has characters just if all is whole in the end. No program is read here.
  The steps of a text (hexaplalaw03.all) are the machine's run; isUTF tells whether a text has characters.
  utf.Whole tells whether a text has characters.
  Whether a text has characters: now utf.Whole.
  quote's Print: appendPrinted adds what stands for a byte.
  quote's Print: appendPrinted at a byte that is written with its digits; the text of a text.
-/
import Derived.Test.YtbnppjmmlfncmaaGreatDoorIrA05
import Derived.Lib.Strings
import Derived.Test.YtbnppjmmlfncmaaGreatDoorIrA04
import Derived.Test.YtbnppjmmlfncmaaGreatDoorIrA02
import Derived.Deep.RegionLaw
import Derived.IntWalk
set_option maxRecDepth 100000
set_option linter.unusedSectionVars false
namespace Go.Proofs.YtbnppjmmlfncmaaGreatDoor.Qt
open Go.RowKit Go.Maps
variable [Fo]
theorem bytes_of (w : World) (l : List UInt8) :
 ∃ c w',(convert 9 39 (.string ⟨l.toArray⟩)).run Tryz.prog w = .ok (.slice (some ⟨w.heap.size,0,none⟩) l.length c) w' /\
  (∀ j u,(l.map bV)[j]? = some u -> w'.cell? ((⟨w.heap.size,0,none⟩ : Addr).add j) = some u) /\ Below w.heap.size w w':=by
 have h:=run_bytes_of_string (P:=Tryz.prog) w 9 39 5 ⟨l.toArray⟩ Tryz.underlying9 Tryz.underlying39 Tryz.underlying5
 have hs : (ByteArray.mk l.toArray).size = l.length:=by simp [ByteArray.size]
 rw [hs] at h
 refine ⟨_,_,h,?_,?_⟩
 ·intro j u hj
  rw [addr_add0]
  have hjl : j < l.length:=by
   rcases Nat.lt_or_ge j l.length with h | h
   ·exact h
   ·rw [List.getElem?_eq_none (by simpa using h)] at hj; cases hj
  have hc:=World.cell?_alloc_mark w.drew (bytesRow ⟨l.toArray⟩ (grownCap w l.length 0 5)) 5 ((bytesRow ⟨l.toArray⟩ (grownCap w l.length 0 5)).size,(bytesRow ⟨l.toArray⟩ (grownCap w l.length 0 5)).size + 1) j
  have hh : w.drew.heap.size = w.heap.size:=rfl
  rw [hh] at hc
  rw [hc,bytesRow_at _ _ _ (by simpa using hjl)]
  rw [List.getElem?_map,List.getElem?_eq_getElem hjl] at hj
  simpa [bV] using hj
 ·exact (below_drew (Below.refl _ _)).alloc (Nat.le_refl _) _
theorem digit_any (w : World) (g : Nat) (q : QS) (b : Int) (h0 : 0 <= b) (h1 : b <= 255) (hq : QAt w g q) (hst : q.st = 2) (hinv : QInv q) :
 Calls Tryz.prog 273 #[.pointer (some ⟨g,0,none⟩),.int .u8 b] w fun e w' => e = .returned (.int .i64 (qDigit q b).e) /\ Stepd w g (qDigit q b) w':=by
 obtain ⟨d,n,hq,h2⟩:=hq
 obtain ⟨rfl,rfl⟩:=h2 hst
 obtain ⟨hl,hs⟩:=hinv
 have hn : 0 <= q.n /\ q.n < 4096 /\ 0 <= q.d /\ q.d <= 3:=by rcases hs with h | h | h | h <;> omega
 obtain ⟨hn0,hn1,hd0,hd1⟩:=hn
 clear hs
 have hlt:=hq.lt
 have hx:=hexI_lt b
 by_cases hneg : hexI b < 0
 ·have hr : qDigit q b = ⟨false,9,q⟩:=by unfold qDigit; rw [if_pos hneg]
  have hdec : decide (0 <= hexI b) = false:=by simp; omega
  rw [hr]
  have HD:=Lib.hid hdec
  clear hr hdec hneg
  go_enter Tryz.func273,Tryz.ntmps273
  go_wp2_with (first
   | (go_at_call 280; refine (dig_any b h0 h1 _).mono ?_; rintro e w' ⟨rfl,rfl⟩; rw [HD.out]))
  go_ret
  exact ⟨rfl,⟨_,_,hq,fun _ => ⟨rfl,rfl⟩⟩,Tch.refl _ _ _⟩
 have hv : hexV b = hexI b:=by unfold hexV; rw [if_neg hneg]
 have hdec : decide (0 <= hexI b) = true:=by simp; omega
 have hj : bits .or .i64 (q.n * 16) (hexI b) = q.n * 16 + hexI b:=bits_join .i64 63 (by decide) (fun n a b => by rw [IntKind.wrap_i64]; omega) 4 (q.n * 16) (hexI b) (by omega) (by omega) (by omega) (by omega) (by omega) (by omega)
 have HD:=Lib.hid hdec
 have HJ:=Lib.hid hj
 have HV:=Lib.hid hv
 have hq':=hq
 obtain ⟨v,hk,_⟩:=hq'
 have c2 : w.cell? ⟨g,2,none⟩ = some (.int .i64 q.d):=hk.cell 2
 have c3 : w.cell? ⟨g,3,none⟩ = some (.int .i64 q.n):=hk.cell 3
 have f2:=hk.frozen 2
 have f3:=hk.frozen 3
 clear hk hdec hj hv
 by_cases hd : q.d < 3
 ·have hr : qDigit q b = ⟨false,0,⟨q.xs,2,q.d + 1,q.n * 16 + hexI b⟩⟩:=by unfold qDigit; rw [if_neg hneg,if_pos hd]
  rw [hr]
  clear hr
  go_enter Tryz.func273,Tryz.ntmps273
  go_wp2_with (first
   | (go_at_call 280; refine (dig_any b h0 h1 _).mono ?_; rintro e w' ⟨rfl,rfl⟩; rw [HD.out,HV.out]))
  go_ret
  rw [HJ.out]
  have hq2:=(hq.set2 (q.d + 1)).set3 (q.n * 16 + hexI b)
  rw [hst] at hq2
  exact ⟨rfl,⟨_,_,hq2,fun _ => ⟨rfl,rfl⟩⟩,((hq.touch 2 _).trans ((hq.set2 (q.d + 1)).touch 3 _))⟩
 have hnd : ¬ (q.d < 3):=hd
 by_cases hm : mayB (q.n * 16 + hexI b) = true
 ·have hr : qDigit q b = qAdd q (putL (q.n * 16 + hexI b)):=by unfold qDigit; rw [if_neg hneg,if_neg hd,if_pos hm]
  have hput : putS (q.n * 16 + hexI b) = ⟨(putL (q.n * 16 + hexI b)).toArray⟩:=by unfold putS; rw [if_pos hm]
  have hlen : (putL (q.n * 16 + hexI b)).length <= 4:=by
   unfold putL
   repeat' split
   all_goals simp
  rw [hr]
  have e0 : (qAdd q (putL (q.n * 16 + hexI b))).e = addE q.xs (putL (q.n * 16 + hexI b)):=by rw [qadd_eq]
  rw [e0]
  have HM:=Lib.hid hm
  have HP:=Lib.hid hput
  clear hr hput e0 hm
  go_enter Tryz.func273,Tryz.ntmps273
  go_wp2_with (first
   | (go_at_call 280; refine (dig_any b h0 h1 _).mono ?_; rintro e w' ⟨rfl,rfl⟩; rw [HD.out,HV.out]))
  rw [HJ.out]
  refine (put_any _ _).mono ?_
  rintro e w1 ⟨rfl,hb1⟩
  rw [HM.out,HP.out]
  obtain ⟨c,w2,hrun,hcells,hb2⟩:=bytes_of w1 (putL (q.n * 16 + hexI b))
  have hs1:=hb1.size
  go_wp2_with fail
  refine (end_any _ g q.xs q.st q.d q.n ((hq.below hb1).below hb2) hl ⟨w1.heap.size,0,none⟩ _ c hlen hcells).mono ?_
  rintro e w3 ⟨rfl,hq3,hb3⟩
  go_wp2
  go_ret
  exact ⟨rfl,qat_add (fun _ => ⟨rfl,rfl⟩) hq3,((Tch.of_below hb1).trans (Tch.of_below hb2)).trans hb3⟩
 ·have hr : qDigit q b = ⟨false,9,q⟩:=by unfold qDigit; rw [if_neg hneg,if_neg hd,if_neg hm]
  have hmf : mayB (q.n * 16 + hexI b) = false:=by simpa using hm
  rw [hr]
  have HM:=Lib.hid hmf
  clear hr hm hmf
  go_enter Tryz.func273,Tryz.ntmps273
  go_wp2_with (first
   | (go_at_call 280; refine (dig_any b h0 h1 _).mono ?_; rintro e w' ⟨rfl,rfl⟩; rw [HD.out,HV.out]))
  rw [HJ.out]
  refine (put_any _ _).mono ?_
  rintro e w1 ⟨rfl,hb1⟩
  rw [HM.out]
  go_wp2
  go_ret
  exact ⟨rfl,⟨_,_,hq.below hb1,fun _ => ⟨rfl,rfl⟩⟩,Tch.of_below hb1⟩
end Go.Proofs.YtbnppjmmlfncmaaGreatDoor.Qt
namespace Go.Proofs.YtbnppjmmlfncmaaGreatDoor.Qt
open Go.RowKit Go.Maps
variable [Fo]
def StepEnd (r : QR) : Ending:=.returned (.tuple #[.bool r.done,.int .i64 r.e])
theorem qstep_any (w : World) (g : Nat) (q : QS) (b : Int) (h0 : 0 <= b) (h1 : b <= 255) (hq : QAt w g q) (hinv : QInv q) :
 Calls Tryz.prog 264 #[.pointer (some ⟨g,0,none⟩),.int .u8 b] w fun e w' => e = StepEnd (qStep q b) /\ Stepd w g (qStep q b) w':=by
 have hlt:=hq.lt
 have hq':=hq
 obtain ⟨d,n,hr,h2⟩:=hq'
 have hr':=hr
 obtain ⟨v,hk,_⟩:=hr'
 have c1 : w.cell? ⟨g,1,none⟩ = some (.int .i64 q.st):=hk.cell 1
 have f1:=hk.frozen 1
 clear hk
 obtain ⟨hl,hs⟩:=hinv
 by_cases s1 : q.st = 1
 ·have e : qStep q b = qLetter q b:=by unfold qStep; rw [if_pos s1]
  rw [e]
  rw [s1] at c1
  have hd : (qLetter q b).done = false:=by
   unfold qLetter qAdd
   repeat' split
   all_goals rfl
  unfold StepEnd
  rw [hd]
  clear s1 e hd hr h2 hs
  go_enter Tryz.func264,Tryz.ntmps264
  go_wp2_with (first
   | (go_at_call 272; refine (letter_any _ g q b h0 h1 hq hl).mono ?_; rintro e w1 ⟨rfl,hs1⟩))
  go_ret2
  exact ⟨rfl,hs1⟩
 by_cases s2 : q.st = 2
 ·have e : qStep q b = qDigit q b:=by unfold qStep; rw [if_neg s1,if_pos s2]
  rw [e]
  rw [s2] at c1
  have hd : (qDigit q b).done = false:=by
   unfold qDigit qAdd
   repeat' split
   all_goals rfl
  unfold StepEnd
  rw [hd]
  have HS:=Lib.hid s2
  have HI:=Lib.hid (show QInv q from ⟨hl,hs⟩)
  clear s1 s2 e hd hr h2 hs
  go_enter Tryz.func264,Tryz.ntmps264
  go_wp2_with (first
   | (go_at_call 273; refine (digit_any _ g q b h0 h1 hq HS.out HI.out).mono ?_; rintro e w1 ⟨rfl,hs1⟩))
  go_ret2
  exact ⟨rfl,hs1⟩
 by_cases s3 : q.st = 3
 ·have e : qStep q b = ⟨false,2,q⟩:=by unfold qStep; rw [if_neg s1,if_neg s2,if_pos s3]
  rw [e]
  rw [s3] at c1
  clear s1 s2 s3 e hr h2 hs
  go_enter Tryz.func264,Tryz.ntmps264
  go_wp2
  go_ret2
  exact ⟨rfl,hq,Tch.refl _ _ _⟩
 have s0 : q.st = 0:=by omega
 have e : qStep q b = qPlain q b:=by unfold qStep; rw [if_neg s1,if_neg s2,if_neg s3]
 rw [e]
 rw [s0] at c1
 clear e hs s1 s2 s3
 by_cases b1 : b < 32
 ·have e : qPlain q b = ⟨false,2,q⟩:=by unfold qPlain; rw [if_pos b1]
  rw [e]
  clear e
  go_enter Tryz.func264,Tryz.ntmps264
  go_wp2
  go_ret2
  exact ⟨rfl,hq,Tch.refl _ _ _⟩
 by_cases b2 : b = 34
 ·have e : qPlain q b = ⟨true,0,⟨q.xs,3,0,0⟩⟩:=by unfold qPlain; rw [if_neg b1,if_pos b2]
  rw [e]
  clear e b1
  subst b2
  go_enter Tryz.func264,Tryz.ntmps264
  go_wp2
  go_ret2
  exact ⟨rfl,⟨_,_,hr.set 3,fun h => by cases h⟩,hr.touch 1 _⟩
 by_cases b3 : b = 92
 ·have e : qPlain q b = ⟨false,0,⟨q.xs,1,0,0⟩⟩:=by unfold qPlain; rw [if_neg b1,if_neg b2,if_pos b3]
  rw [e]
  clear e b1 b2
  subst b3
  go_enter Tryz.func264,Tryz.ntmps264
  go_wp2
  go_ret2
  exact ⟨rfl,⟨_,_,hr.set 1,fun h => by cases h⟩,hr.touch 1 _⟩
 have e : qPlain q b = qAdd q [b8 b]:=by unfold qPlain; rw [if_neg b1,if_neg b2,if_neg b3]
 have e0 : (qAdd q [b8 b]).e = addE q.xs [b8 b]:=by rw [qadd_eq]
 have e1 : (qAdd q [b8 b]).done = false:=by rw [qadd_eq]
 have n2 : (b == 34) = false:=beq_eq_false_iff_ne.2 b2
 have n3 : (b == 92) = false:=beq_eq_false_iff_ne.2 b3
 have hra : QRaw (w.alloc (.cells #[.int .u8 b] 5)) g q.xs q.st d n:=hr.below ((Below.refl _ _).alloc (Nat.le_refl _) _)
 rw [e]
 unfold StepEnd
 rw [e0,e1]
 have H0:=Lib.hid s0
 clear e e0 e1 b2 b3 s0 h2
 go_enter Tryz.func264,Tryz.ntmps264
 go_wp2_with fail
 refine (add_any _ g q.xs q.st d n hra hl ⟨w.heap.size,0,none⟩ [b8 b] 1 (by simp) ?_).mono ?_
 ·have:=cell_one_new w (.int .u8 b) 5
  simp only [List.map_cons,List.map_nil]
  rw [bV_b8 _ (by omega) (by omega)]
  exact this
 rintro e w1 ⟨rfl,hq1,hb1⟩
 go_wp2
 go_ret2
 refine ⟨rfl,qat_add (d:=d) (n:=n) (fun h => absurd h (by rw [H0.out]; decide)) ?_,((Tch.refl g qObj w).alloc _).trans hb1⟩
 rw [H0.out] at hq1 ⊢
 simpa using hq1
end Go.Proofs.YtbnppjmmlfncmaaGreatDoor.Qt
namespace Go.Proofs.YtbnppjmmlfncmaaGreatDoor
open Go.RowKit
def ScanAt (w : World) (g : Nat) (l lo hi : Int) : Prop:=Blk w g 160 #[.int .i64 l,.int .u8 lo,.int .u8 hi]
def Stepped (w : World) (g : Nat) (l lo hi b : Int) (e : Ending) (w' : World) : Prop :=
 e = .returned (.bool (stOk l lo hi b)) /\ w.grownBy w' (some g) /\ (if stOk l lo hi b = true then ScanAt w' g (stL l b) (stLo l b) (stHi l b) else ScanAt w' g l lo hi)
theorem new_any (w : World) : Calls Tryz.prog 101 #[] w fun e w' => e = .returned (.pointer (some ⟨w.heap.size,0,none⟩)) /\ w' = w.alloc (.cells #[.int .i64 0,.int .u8 128,.int .u8 191] 160):=by
 go_enter Tryz.func101,Tryz.ntmps101
 go_wp2
 go_ret
 exact ⟨rfl,rfl⟩
theorem whole_any (w : World) (g : Nat) (l lo hi : Int) (hs : ScanAt w g l lo hi) :
 Calls Tryz.prog 109 #[.pointer (some ⟨g,0,none⟩)] w fun e w' => e = .returned (.bool (decide (l = 0))) /\ w = w':=by
 have hc : w.cell? ⟨g,0,none⟩ = some (.int .i64 l):=hs.cell 0
 go_enter Tryz.func109,Tryz.ntmps109
 go_wp2
 go_ret
 refine ⟨ret_bool ?_,rfl⟩
 rw [Bool.eq_iff_iff]; simp
theorem stepped_no {w : World} {g : Nat} {l lo hi b : Int} {o : Obj} (hs : ScanAt w g l lo hi) (hk : stOk l lo hi b = false) : Stepped w g l lo hi b (.returned (.bool false)) (w.alloc o):=by
 refine ⟨by rw [hk],only_alloc (World.grownBy.refl _ _) _,?_⟩
 rw [hk,if_neg (by decide)]
 exact Blk.alloc hs _
theorem stepped_yes {w : World} {g : Nat} {l lo hi b : Int} {l' lo' hi' : Int} {o : Obj} (hs : ScanAt w g l lo hi) (hk : stOk l lo hi b = true) (h1 : l' = stL l b) (h2 : lo' = stLo l b) (h3 : hi' = stHi l b) :
 Stepped w g l lo hi b (.returned (.bool true)) ((((w.setCell ⟨g,0,none⟩ (.int .i64 l')).setCell ⟨g,1,none⟩ (.int .u8 lo')).setCell ⟨g,2,none⟩ (.int .u8 hi')).alloc o):=by
 subst h1 h2 h3
 have g1:=only_setCell (p:=⟨g,0,none⟩) (World.grownBy.refl w (some g)) (.inl rfl) (.int .i64 (stL l b))
 have g2:=only_setCell (p:=⟨g,1,none⟩) g1 (.inl rfl) (.int .u8 (stLo l b))
 have g3:=only_setCell (p:=⟨g,2,none⟩) g2 (.inl rfl) (.int .u8 (stHi l b))
 have b1:=Blk.set_ hs 0 (.int .i64 (stL l b))
 have b2:=Blk.set_ b1 1 (.int .u8 (stLo l b))
 have b3:=Blk.set_ b2 2 (.int .u8 (stHi l b))
 refine ⟨by rw [hk],only_alloc g3 _,?_⟩
 rw [hk,if_pos rfl]
 exact Blk.alloc b3 o
set_option maxHeartbeats 400000 in
theorem step_tail (w : World) (g : Nat) (l lo hi b : Int) (hs : ScanAt w g l lo hi) (hl : 0 < l) (hl3 : l <= 3) :
 Calls Tryz.prog 108 #[.pointer (some ⟨g,0,none⟩),.int .u8 b] w (Stepped w g l lo hi b):=by
 have c0 : w.cell? ⟨g,0,none⟩ = some (.int .i64 l):=hs.cell 0
 have c1 : w.cell? ⟨g,1,none⟩ = some (.int .u8 lo):=hs.cell 1
 have c2 : w.cell? ⟨g,2,none⟩ = some (.int .u8 hi):=hs.cell 2
 have f0:=hs.frozen 0
 have f1:=hs.frozen 1
 have f2:=hs.frozen 2
 have hlt:=hs.lt
 go_enter Tryz.func108,Tryz.ntmps108
 go_wp2
 refine wp_scope_fwd 2 ?_
 generalize hQ : Exit.fwd _ _ _ 2 = Q2
 go_wp2
 go_step3
 show Q2 _ _ _
 rw [<- hQ]
 refine Exit.fwd_goto 1 _ _ rfl ?_
 generalize hQ1 : Exit.fwd _ _ _ 1 = Q1
 go_wp2
 ·rw [<- hQ1,Exit.fwd_ret]
  go_ret
  have hk : stOk l lo hi b = false:=by unfold stOk; rw [if_pos hl]; simp; omega
  exact stepped_no hs hk
 ·go_step3
  show Q1 _ _ _
  rw [<- hQ1]
  refine Exit.fwd_goto 0 _ _ rfl ?_
  generalize hQ0 : Exit.fwd _ _ _ 0 = Q0
  go_wp2
  rw [<- hQ0,Exit.fwd_ret]
  go_ret
  have hk : stOk l lo hi b = true:=by unfold stOk; rw [if_pos hl]; simp; omega
  exact stepped_yes hs hk (by unfold stL; rw [if_pos hl]) (by unfold stLo; rw [if_pos hl]) (by unfold stHi; rw [if_pos hl])
 ·rw [<- hQ1,Exit.fwd_ret]
  go_ret
  have hk : stOk l lo hi b = false:=by unfold stOk; rw [if_pos hl]; simp; omega
  exact stepped_no hs hk
set_option maxHeartbeats 1000000 in
theorem step_lead (w : World) (g : Nat) (lo hi b : Int) (hs : ScanAt w g 0 lo hi) (hb0 : 0 <= b) (hb1 : b <= 255) :
 Calls Tryz.prog 108 #[.pointer (some ⟨g,0,none⟩),.int .u8 b] w (Stepped w g 0 lo hi b):=by
 have c0 : w.cell? ⟨g,0,none⟩ = some (.int .i64 0):=hs.cell 0
 have c1 : w.cell? ⟨g,1,none⟩ = some (.int .u8 lo):=hs.cell 1
 have c2 : w.cell? ⟨g,2,none⟩ = some (.int .u8 hi):=hs.cell 2
 have f0:=hs.frozen 0
 have f1:=hs.frozen 1
 have f2:=hs.frozen 2
 have hlt:=hs.lt
 go_enter Tryz.func108,Tryz.ntmps108
 go_wp2
 refine wp_scope_fwd 2 ?_
 generalize hQ : Exit.fwd _ _ _ 2 = Q2
 go_wp2
 all_goals first
  | (rw [<- hQ,Exit.fwd_ret]; go_ret; exact stepped_no hs (by simp [stOk]; omega))
  | skip
 all_goals
  go_step3
  show Q2 _ _ _
  rw [<- hQ]
  refine Exit.fwd_goto 1 _ _ rfl ?_
  generalize hQ1 : Exit.fwd _ _ _ 1 = Q1
 all_goals go_wp2
 all_goals try (go_step3; go_wp2)
 all_goals try (go_step3; go_wp2)
 all_goals try (go_step3; go_wp2)
 all_goals (rw [<- hQ1,Exit.fwd_ret]; go_ret)
 all_goals refine stepped_yes hs (by simp [stOk]; omega) ?_ ?_ ?_
 all_goals simp only [stL,stLo,stHi]
 all_goals clear hQ1 c0 c1 c2 f0 f1 f2 hs
 all_goals try simp only [beq_iff_eq,beq_eq_false_iff_ne] at *
 all_goals rw [if_neg (by omega)]
 all_goals repeat (first | rw [if_pos (by omega)] | rw [if_neg (by omega)])
theorem step_any (w : World) (g : Nat) (l lo hi b : Int) (hs : ScanAt w g l lo hi) (hl0 : 0 <= l) (hl3 : l <= 3) (hb0 : 0 <= b) (hb1 : b <= 255) :
 Calls Tryz.prog 108 #[.pointer (some ⟨g,0,none⟩),.int .u8 b] w (Stepped w g l lo hi b):=by
 rcases Int.lt_or_eq_of_le hl0 with h | h
 ·exact step_tail w g l lo hi b hs h hl3
 ·subst h
  exact step_lead w g lo hi b hs hb0 hb1
theorem stL_range {l b : Int} (h0 : 0 <= l) (h3 : l <= 3) : 0 <= stL l b /\ stL l b <= 3:=by
 unfold stL; repeat' split
 all_goals omega
def UtfAt (L : List UInt8) (k : Nat) (l lo hi : Int) : Prop:=∃ num out,runesL L = runesGo ⟨l,lo,hi,num,out⟩ (L.drop k)
theorem utf_step {L : List UInt8} {k : Nat} {b : UInt8} {l lo hi : Int} (hd : L.drop k = b :: L.drop (k + 1)) (h : UtfAt L k l lo hi) (hok : stOk l lo hi b.toNat = true) : UtfAt L (k + 1) (stL l b.toNat) (stLo l b.toNat) (stHi l b.toNat):=by
 obtain ⟨num,out,h⟩:=h
 rw [hd] at h
 simp only [runesGo,rnStep,hok,if_true] at h
 split at h
 ·rename_i heq
  split at heq <;> cases heq
 ·rename_i s' heq
  split at heq
  ·cases heq; exact ⟨_,_,h⟩
  ·cases heq; exact ⟨_,_,h⟩
theorem utf_bad {L : List UInt8} {k : Nat} {b : UInt8} {l lo hi : Int} (hd : L.drop k = b :: L.drop (k + 1)) (h : UtfAt L k l lo hi) (hok : stOk l lo hi b.toNat = false) : (runesL L).isSome = false:=by
 obtain ⟨num,out,h⟩:=h
 rw [hd] at h
 simp only [runesGo,rnStep,hok] at h
 simp at h
 rw [h]; rfl
theorem utf_end {L : List UInt8} {l lo hi : Int} {k : Nat} (hk : L.length <= k) (h : UtfAt L k l lo hi) : (runesL L).isSome = decide (l = 0):=by
 obtain ⟨num,out,h⟩:=h
 rw [h,List.drop_eq_nil_of_le hk]
 simp only [runesGo]
 split <;> simp_all
theorem drop_cons (s : ByteArray) (k : Nat) (h : k < s.size) : s.data.toList.drop k = s[k] :: s.data.toList.drop (k + 1):=by
 rw [List.drop_eq_getElem_cons (by simpa using h)]; rfl
theorem extract_all (s : ByteArray) (a : Nat) : (s.extract a s.size).data.toList = s.data.toList.drop a:=by
 rw [show (s.extract a s.size).data.toList = (s.data.toList.drop a).take (s.size - a) from by simp,List.take_of_length_le]
 simp
end Go.Proofs.YtbnppjmmlfncmaaGreatDoor
namespace Go.Proofs.YtbnppjmmlfncmaaGreatDoor.Qt
open Go.RowKit Go.Maps
variable [Fo]
end Go.Proofs.YtbnppjmmlfncmaaGreatDoor.Qt
namespace Go.Proofs.YtbnppjmmlfncmaaGreatDoor
open Go.RowKit Go.Maps
set_option maxHeartbeats 1000000 in
theorem whole_utf (s : ByteArray) (w : World) (hm : s.size <= 140737488355328) :
 Calls Tryz.prog 72 #[.string s] w fun e w' => e = .returned (.bool (runesL s.data.toList).isSome) /\ Below w.heap.size w w':=by
 go_enter Tryz.func72,Tryz.ntmps72
 go_wp2_with (first
  | (go_at_call 101; refine (new_any _).mono ?_; rintro e w' ⟨rfl,rfl⟩))
 go_loopw [8] (fun i wr => ∃ (k : Nat) (l lo hi : Int),k <= s.size /\ i = .int .i64 k /\ ScanAt wr w.heap.size l lo hi /\ 0 <= l /\ l <= 3 /\ Below w.heap.size w wr /\ Hid (UtfAt s.data.toList k l lo hi)) (fun i _ => s.size - (intOf i).toNat)
 case atStart => exact ⟨0,0,128,191,Nat.zero_le _,rfl,Blk.new w _ _,by decide,by decide,(Below.refl _ _).alloc (Nat.le_refl _) _,Lib.hid ⟨0,[],rfl⟩⟩
 case round =>
  obtain ⟨k,l,lo,hi,hk,rfl,hsc,h0,h3,hbel,HW⟩:=hrel
  by_cases hlt : k < s.size
  ·have hle:=byte_le s[k]
   have HD:=Lib.hid (drop_cons s k hlt)
   have hr:=stL_range (b:=s[k].toNat) h0 h3
   obtain ⟨hr0,hr3⟩:=hr
   go_wp2_with fail
   refine (step_any _ _ _ _ _ _ hsc h0 h3 (by omega) hle).mono ?_
   rintro e w1 ⟨rfl,hg1,hs1⟩
   have hbel1 : Below w.heap.size w w1:=below_only hbel hg1 hbel.size (Nat.le_refl _)
   clear hg1 hsc hbel
   generalize hO : stOk l lo hi s[k].toNat = O at *
   have HO:=Lib.hid hO
   clear hO
   cases O
   ·have HE:=Lib.hid (utf_bad HD.out HW.out HO.out)
    go_wp2
    go_ret
    rw [HE.out]
    exact ⟨rfl,hbel1⟩
   ·rw [if_pos rfl] at hs1
    go_wp2
    go_roundw
    case rel => exact ⟨k + 1,_,_,_,by omega,by go_num,hs1,hr0,hr3,hbel1,Lib.hid (utf_step HD.out HW.out HO.out)⟩
    case measure => simp [intOf]; omega
  ·have hend:=utf_end (by simp; omega) HW.out
   have HE:=Lib.hid hend
   clear hend
   go_wp2_with (first
    | (go_at_call 109; refine (whole_any _ _ _ _ _ hsc).mono ?_; rintro e w' ⟨rfl,rfl⟩))
   go_ret
   rw [HE.out]
   exact ⟨rfl,hbel⟩
end Go.Proofs.YtbnppjmmlfncmaaGreatDoor
namespace Go.Proofs.YtbnppjmmlfncmaaGreatDoor.Qt
open Go.RowKit Go.Maps
variable [Fo]
theorem isutf_any (s : ByteArray) (w : World) (hm : s.size <= 140737488355328) :
 Calls Tryz.prog 72 #[.string s] w fun e w' => e = .returned (.bool (runesL s.data.toList).isSome) /\ Below w.heap.size w w' :=
 whole_utf s w hm
end Go.Proofs.YtbnppjmmlfncmaaGreatDoor.Qt
namespace Go.Proofs.YtbnppjmmlfncmaaGreatDoor.Qt
open Go.RowKit Go.Maps
variable [Fo]
section
variable {P : Program} {w : World}
theorem step_appS {ops : Array Oper} {o : Oper} {a : Act} {K : Act -> World -> Prop} {Q : Exit -> Act -> World -> Prop} {E : Prop} (hgd : o.guard = none) (s x : Operand) (t : TypeId)
 (ho : o.op = .call { callee:=.builtin .append,args:=#[s,x],argTypes:=#[t,t] })
 (base : Nat) (e : TypeId) (z : Value) (bytes : Nat) (ht : P.underlying t = some (.slice e)) (hinfo : (P.info? e).map (fun i => (i.zero,i.size,i.bytes)) = some (some z,1,bytes)) (hz1 : z.cells.size = 1)
 (v : Value) (xs news : List Value) (hs : a.eval s = v) (hown : ORow w base e v xs) (hu : ∀ u ∈ news,u.oneCell' = true)
 (A : Addr) (m c : Nat) (hm : news.length = m) (hx : a.eval x = .slice (some A) m c) (hc : ∀ j u,news[j]? = some u -> w.cell? (A.add j) = some u)
 (h63 : xs.length + m <= maxLen) (hbytes : (xs.length + m) * bytes <= 140737488355328) (hbase : base <= w.heap.size)
 (h : ∀ v' w',ORow w' base e v' (xs ++ news) -> Below base w w' -> K (a.put o.dst v') w') :
 if Region.wanted o (yielded ops a.tmps) = true then Oper.wp P o a w K Q else E:=by
 have hw : Region.wanted o (yielded ops a.tmps) = true:=by simp [Region.wanted,hgd]
 rw [if_pos hw]
 obtain ⟨i,hi,hz,hsize,hby⟩:=info_parts hinfo
 obtain ⟨v',w',hrun,h2,h3,_,h5⟩:=run_append_own_at (P:=P) w base t o.type e i z 1 bytes ht hi hz hsize hby hz1 (by decide) v xs.length xs hown
  A m c news (by simp [hm]) hc hu h63 hbytes hbase
 unfold Oper.wp execOp
 simp only [ho,resolve,invoke,builtin,Sem.run_bind,Sem.run_pure,Result.andThen_ok,List.map_toArray,List.map_cons,List.map_nil,hs,hx,hrun]
 refine h v' w' ?_ ?_
 ·unfold ORow
  rw [List.length_append,hm]
  exact h2
 ·refine ⟨h3.os,h3.tape,h3.output,h3.size,fun k hk => h3.block k (by omega) fun hcc => ?_⟩
  have:=World.ownsRow.lt hown k hcc.symm
  omega
end
theorem cells_new (w : World) (l : List Value) (t : TypeId) : ∀ j u,l[j]? = some u -> (w.alloc (.cells l.toArray t)).cell? ((⟨w.heap.size,0,none⟩ : Addr).add j) = some u:=by
 intro j u hj
 rw [addr_add0]
 exact (Blk.new w t l.toArray).cell j |>.trans (by simpa using hj)
def PrPost (w : World) (base : Nat) (xs : List UInt8) (b : UInt8) (e : Ending) (w' : World) : Prop:=∃ v,e = .returned v /\ ORow w' base 5 v ((xs ++ prB b).map bV) /\ Below base w w'
theorem prPost_of {w w' : World} {base : Nat} {v : Value} {xs : List UInt8} {b : UInt8} {news : List Value} (h : (prB b).map bV = news) (ho : ORow w' base 5 v (xs.map bV ++ news)) (hb : Below base w w') : PrPost w base xs b (.returned v) w' :=
 ⟨v,rfl,by rw [List.map_append,h]; exact ho,hb⟩
set_option maxHeartbeats 1000000 in
theorem pr_34 (w : World) (base : Nat) (A : Option Addr) (cap : Nat) (xs : List UInt8) (b : UInt8) (ho : ORow w base 5 (.slice A xs.length cap) (xs.map bV)) (hl : xs.length <= 1000) (hbase : base <= w.heap.size)
 (HP : Hid ((prB b).map bV = [.int .u8 92,.int .u8 34])) :
 Calls Tryz.prog 73 #[.slice A xs.length cap,.int .u8 34] w (PrPost w base xs b):=by
 go_enter Tryz.func73,Tryz.ntmps73
 go_wp2_with (first
  | (at_builtin; refine wp_appS rfl _ _ 39 rfl base 5 (.int .u8 0) 1 Tryz.underlying39 Tryz.info5 rfl _ _ [.int .u8 92,.int .u8 34] rfl (by exact ho.alloc _) (by simp [Value.oneCell']) ⟨w.heap.size,0,none⟩ 2 2 rfl rfl (cells_new w [.int .u8 92,.int .u8 34] 5) (by simp [maxLen]; omega) (by simp; omega) (by simp; omega) ?_; intro v1 w1 hown1 hb1))
 go_ret
 exact prPost_of HP.out hown1 (((Below.refl base w).alloc hbase _).trans hb1)
set_option maxHeartbeats 1000000 in
theorem pr_92 (w : World) (base : Nat) (A : Option Addr) (cap : Nat) (xs : List UInt8) (b : UInt8) (ho : ORow w base 5 (.slice A xs.length cap) (xs.map bV)) (hl : xs.length <= 1000) (hbase : base <= w.heap.size)
 (HP : Hid ((prB b).map bV = [.int .u8 92,.int .u8 92])) :
 Calls Tryz.prog 73 #[.slice A xs.length cap,.int .u8 92] w (PrPost w base xs b):=by
 go_enter Tryz.func73,Tryz.ntmps73
 go_wp2_with (first
  | (at_builtin; refine wp_appS rfl _ _ 39 rfl base 5 (.int .u8 0) 1 Tryz.underlying39 Tryz.info5 rfl _ _ [.int .u8 92,.int .u8 92] rfl (by exact ho.alloc _) (by simp [Value.oneCell']) ⟨w.heap.size,0,none⟩ 2 2 rfl rfl (cells_new w [.int .u8 92,.int .u8 92] 5) (by simp [maxLen]; omega) (by simp; omega) (by simp; omega) ?_; intro v1 w1 hown1 hb1))
 go_ret
 exact prPost_of HP.out hown1 (((Below.refl base w).alloc hbase _).trans hb1)
set_option maxHeartbeats 1000000 in
theorem pr_10 (w : World) (base : Nat) (A : Option Addr) (cap : Nat) (xs : List UInt8) (b : UInt8) (ho : ORow w base 5 (.slice A xs.length cap) (xs.map bV)) (hl : xs.length <= 1000) (hbase : base <= w.heap.size)
 (HP : Hid ((prB b).map bV = [.int .u8 92,.int .u8 110])) :
 Calls Tryz.prog 73 #[.slice A xs.length cap,.int .u8 10] w (PrPost w base xs b):=by
 go_enter Tryz.func73,Tryz.ntmps73
 go_wp2_with (first
  | (at_builtin; refine wp_appS rfl _ _ 39 rfl base 5 (.int .u8 0) 1 Tryz.underlying39 Tryz.info5 rfl _ _ [.int .u8 92,.int .u8 110] rfl (by exact ho.alloc _) (by simp [Value.oneCell']) ⟨w.heap.size,0,none⟩ 2 2 rfl rfl (cells_new w [.int .u8 92,.int .u8 110] 5) (by simp [maxLen]; omega) (by simp; omega) (by simp; omega) ?_; intro v1 w1 hown1 hb1))
 go_ret
 exact prPost_of HP.out hown1 (((Below.refl base w).alloc hbase _).trans hb1)
set_option maxHeartbeats 1000000 in
theorem pr_9 (w : World) (base : Nat) (A : Option Addr) (cap : Nat) (xs : List UInt8) (b : UInt8) (ho : ORow w base 5 (.slice A xs.length cap) (xs.map bV)) (hl : xs.length <= 1000) (hbase : base <= w.heap.size)
 (HP : Hid ((prB b).map bV = [.int .u8 92,.int .u8 116])) :
 Calls Tryz.prog 73 #[.slice A xs.length cap,.int .u8 9] w (PrPost w base xs b):=by
 go_enter Tryz.func73,Tryz.ntmps73
 go_wp2_with (first
  | (at_builtin; refine wp_appS rfl _ _ 39 rfl base 5 (.int .u8 0) 1 Tryz.underlying39 Tryz.info5 rfl _ _ [.int .u8 92,.int .u8 116] rfl (by exact ho.alloc _) (by simp [Value.oneCell']) ⟨w.heap.size,0,none⟩ 2 2 rfl rfl (cells_new w [.int .u8 92,.int .u8 116] 5) (by simp [maxLen]; omega) (by simp; omega) (by simp; omega) ?_; intro v1 w1 hown1 hb1))
 go_ret
 exact prPost_of HP.out hown1 (((Below.refl base w).alloc hbase _).trans hb1)
set_option maxHeartbeats 1000000 in
theorem pr_13 (w : World) (base : Nat) (A : Option Addr) (cap : Nat) (xs : List UInt8) (b : UInt8) (ho : ORow w base 5 (.slice A xs.length cap) (xs.map bV)) (hl : xs.length <= 1000) (hbase : base <= w.heap.size)
 (HP : Hid ((prB b).map bV = [.int .u8 92,.int .u8 114])) :
 Calls Tryz.prog 73 #[.slice A xs.length cap,.int .u8 13] w (PrPost w base xs b):=by
 go_enter Tryz.func73,Tryz.ntmps73
 go_wp2_with (first
  | (at_builtin; refine wp_appS rfl _ _ 39 rfl base 5 (.int .u8 0) 1 Tryz.underlying39 Tryz.info5 rfl _ _ [.int .u8 92,.int .u8 114] rfl (by exact ho.alloc _) (by simp [Value.oneCell']) ⟨w.heap.size,0,none⟩ 2 2 rfl rfl (cells_new w [.int .u8 92,.int .u8 114] 5) (by simp [maxLen]; omega) (by simp; omega) (by simp; omega) ?_; intro v1 w1 hown1 hb1))
 go_ret
 exact prPost_of HP.out hown1 (((Below.refl base w).alloc hbase _).trans hb1)
set_option maxHeartbeats 1000000 in
theorem pr_char (w : World) (base : Nat) (A : Option Addr) (cap : Nat) (xs : List UInt8) (b : UInt8) (bi : Int) (ho : ORow w base 5 (.slice A xs.length cap) (xs.map bV)) (hl : xs.length <= 1000) (hbase : base <= w.heap.size)
 (HP : Hid ((prB b).map bV = [.int .u8 bi])) (h0 : 32 <= bi) (h1 : bi <= 255) (h2 : (bi == 34) = false) (h3 : (bi == 92) = false) :
 Calls Tryz.prog 73 #[.slice A xs.length cap,.int .u8 bi] w (PrPost w base xs b):=by
 go_enter Tryz.func73,Tryz.ntmps73
 go_wp2_with (first
  | (at_builtin; refine wp_appS rfl _ _ 39 rfl base 5 (.int .u8 0) 1 Tryz.underlying39 Tryz.info5 rfl _ _ [.int .u8 bi] rfl (by exact ho.alloc _) (by simp [Value.oneCell']) ⟨w.heap.size,0,none⟩ 1 1 rfl rfl (cells_new w [.int .u8 bi] 5) (by simp [maxLen]; omega) (by simp; omega) (by simp; omega) ?_; intro v1 w1 hown1 hb1))
 go_ret
 exact prPost_of HP.out hown1 (((Below.refl base w).alloc hbase _).trans hb1)
end Go.Proofs.YtbnppjmmlfncmaaGreatDoor.Qt
namespace Go.Proofs.YtbnppjmmlfncmaaGreatDoor.Qt
open Go.RowKit Go.Maps
variable [Fo]
theorem hexAt_all : ∀ m : Fin 16,(((⟨#[48,49,50,51,52,53,54,55,56,57,97,98,99,100,101,102]⟩ : ByteArray)[m.val]'(by have:=m.isLt; exact this)).toNat : Int) = hexD (m.val : Int):=by decide
theorem hexAt (n : Int) (h0 : 0 <= n) (h1 : n < 16) (h : n.toNat < (⟨#[48,49,50,51,52,53,54,55,56,57,97,98,99,100,101,102]⟩ : ByteArray).size) :
 (((⟨#[48,49,50,51,52,53,54,55,56,57,97,98,99,100,101,102]⟩ : ByteArray)[n.toNat]'h).toNat : Int) = hexD n:=by
 have:=hexAt_all ⟨n.toNat,h⟩
 simp only at this
 rw [this]
 congr 1
 omega
section
variable {P : Program} {w : World}
theorem step_appN {ops : Array Oper} {o : Oper} {a : Act} {K : Act -> World -> Prop} {Q : Exit -> Act -> World -> Prop} {E : Prop} (hgd : o.guard = none) (s x : Operand) (t : TypeId)
 (ho : o.op = .call { callee:=.builtin .append,args:=#[s,x],argTypes:=#[t,t] })
 (base : Nat) (e : TypeId) (z : Value) (bytes : Nat) (ht : P.underlying t = some (.slice e)) (hinfo : (P.info? e).map (fun i => (i.zero,i.size,i.bytes)) = some (some z,1,bytes)) (hz1 : z.cells.size = 1)
 (v : Value) (xs : List Value) (C : Array Value) (m : Nat) (hs : a.eval s = v) (hown : ORow w base e v xs) (hu : ∀ u ∈ C.toList,u.oneCell' = true) (hm : C.size = m)
 (c : Nat) (hx : a.eval x = .slice (some ⟨w.heap.size,0,none⟩) m c)
 (h63 : xs.length + m <= maxLen) (hbytes : (xs.length + m) * bytes <= 140737488355328) (hbase : base <= w.heap.size)
 (h : ∀ v' w',ORow w' base e v' (xs ++ C.toList) -> Below base w w' -> K (a.put o.dst v') w') :
 if Region.wanted o (yielded ops a.tmps) = true then Oper.wp P o a ((w.alloc (.cells C e)).drew) K Q else E:=by
 refine step_appS hgd s x t ho base e z bytes ht hinfo hz1 v xs C.toList hs (hown.alloc _).drew hu ⟨w.heap.size,0,none⟩ m c hm hx (cells_new w C.toList e) h63 hbytes (by simp; omega) fun v' w' h1 h2 => h v' w' h1 ?_
 exact (below_drew ((Below.refl base w).alloc hbase _)).trans h2
end
set_option maxHeartbeats 1000000 in
theorem pr_ctl (w : World) (base : Nat) (A : Option Addr) (cap : Nat) (xs : List UInt8) (b : UInt8) (bi : Int) (ho : ORow w base 5 (.slice A xs.length cap) (xs.map bV)) (hl : xs.length <= 1000) (hbase : base <= w.heap.size)
 (HP : Hid ((prB b).map bV = [.int .u8 92,.int .u8 117,.int .u8 48,.int .u8 48,.int .u8 (hexD (bi / 16)),.int .u8 (hexD (bi % 16))])) (h0 : 0 <= bi) (h1 : bi < 32) (h2 : (bi == 10) = false) (h3 : (bi == 9) = false) (h4 : (bi == 13) = false) :
 Calls Tryz.prog 73 #[.slice A xs.length cap,.int .u8 bi] w (PrPost w base xs b):=by
 have e34 : (bi == 34) = false:=beq_eq_false_iff_ne.2 (by omega)
 have e92 : (bi == 92) = false:=beq_eq_false_iff_ne.2 (by omega)
 have e4:=u8_and15 bi h0 (show bi < 256 by omega)
 go_enter Tryz.func73,Tryz.ntmps73
 have q0 : 0 <= bi / 16:=by omega
 have q1 : bi / 16 < 16:=by omega
 have q2 : 0 <= bi % 16:=by omega
 have q3 : bi % 16 < 16:=by omega
 go_wp2_with fail
 go_region_law ((refine step_appN (by rfl) (.tmp 30) (.tmp 37) 39 (by rfl) base 5 (.int .u8 0) 1 Tryz.underlying39 Tryz.info5 (by rfl) _ _ _ 6 (by rfl) (by exact ho) (by simp [Value.oneCell']) (by rfl) _ (by rfl) (by simp [maxLen]; omega) (by simp; omega) (by omega) ?_; intro v1 w1 hown1 hb1))
 all_goals
  go_wp2
  go_ret
  rw [hexAt _ q0 q1,hexAt _ q2 q3] at hown1
  exact prPost_of HP.out hown1 hb1
end Go.Proofs.YtbnppjmmlfncmaaGreatDoor.Qt
