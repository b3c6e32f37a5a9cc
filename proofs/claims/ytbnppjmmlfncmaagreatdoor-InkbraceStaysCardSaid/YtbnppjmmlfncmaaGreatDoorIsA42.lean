/-
  The walk of InkbracePrints.
  An event told to a Check: what waits then. Plain functions; no program is read here.
  What an open number tells, and blanks: plain functions. No program is read here.
  The brace syntax as a plain function on bytes: the machine, its step, its end. No program is read here.
-/
import Derived.Test.YtbnppjmmlfncmaaGreatDoorIsA38
import Derived.Test.YtbnppjmmlfncmaaGreatDoorIsA39
import Derived.Test.YtbnppjmmlfncmaaGreatDoorIsA41
import Derived.Test.YtbnppjmmlfncmaaGreatDoorIsA40
import Derived.Test.YtbnppjmmlfncmaaGreatDoorIsA03
import Derived.Test.YtbnppjmmlfncmaaGreatDoorIsA14
import Derived.Test.YtbnppjmmlfncmaaGreatDoorIsA06
set_option maxRecDepth 100000
set_option linter.unusedSimpArgs false
set_option linter.unusedVariables false
namespace Go.Proofs.YtbnppjmmlfncmaaGreatDoor
open Go.RowKit Go.Maps
theorem srN_lenI {σ : Type} (bad : σ -> Nd -> Bool) (next : σ -> Nd -> Nat -> σ) (n : Nd) : ∀ (s : σ) (q : List Nat),srN bad next n s = some q -> q.length <= sizeN n:=by
 induction n using Nd.ind with
 | h k t v l ih =>
  intro s q hq
  have key : ∀ (r : List Nd) (_ : ∀ m ∈ r,∀ (s : σ) (q : List Nat),srN bad next m s = some q -> q.length <= sizeN m) (f : Nat -> σ) (i : Nat) (q : List Nat),srL bad next r f i = some q -> q.length <= 1 + sizeL r:=by
   intro r
   induction r with
   | nil => intro _ f i q h; rw [srL_nil] at h; cases h
   | cons m r ihr =>
    intro hm f i q h
    rw [srL_cons] at h
    split at h
    ·rename_i q' e
     injection h with h
     subst h
     have:=hm m (by simp) _ _ e
     simp only [List.length_cons,sizeL]
     omega
    ·have:=ihr (fun x hx => hm x (by simp [hx])) f (i + 1) q h
     simp only [sizeL]
     omega
  rw [srN_def] at hq
  split at hq
  ·injection hq with hq
   subst hq
   simp
  ·have:=key l ih _ _ _ hq
   simp only [sizeN]
   omega
theorem tells_brc : TellsAt 1:=fun way n _ A c w hA => rtells1 way n A c w hA
theorem iof_any (n : Nd) (A : Option Addr) (c : Nat) (w : World) (hA : NAt (fun b _ => b < w.heap.size) w n A c) (hsm : smallT n) (hz : sizeN n <= 1000) :
 Calls Tryz.prog 12 #[.int .i64 1,.agg #[.int .i64 n.k,.string n.t,.string n.v,.slice A n.kids.length c]] w fun e w' => ∃ v,e = .returned (.tuple #[v,.int .i64 (prE n)]) /\ IRead w' v (prP n) /\ Below w.heap.size w w':=by
 have h:=rof_gen 1 (by omega) n (fun h => ⟨first_of 1 tells_brc n,ChainOk.root ⟨may_gram h,hsm,(may_shaped h).1⟩ hz⟩) A c w hA hsm hz
 unfold OfPost at h
 unfold prE prP
 by_cases h0 : mayN n = 0
 ·have he : ofP 1 n = refP 1 n:=of_ref 1 n (may_gram h0) (fun e => by
   have:=may_value h0
   rw [e] at this
   exact absurd this (by decide))
  rw [he]
  exact h
 ·rw [if_neg h0,if_neg h0] at h ⊢
  exact h
theorem prP_len (n : Nd) (hz : sizeN n <= 1000) : (prP n).length <= 100000000:=by
 unfold prP
 split
 ·simp only [iP,List.length_map]
  cases hr : ofP 1 n with
  | none => simp
  | some q =>
   have:=srN_lenI _ _ n _ q hr
   simp only [Option.getD_some]
   omega
 ·simp
theorem prS_size (n : Nd) (hsm : smallT n) (hz : sizeN n <= 1000) : (⟨(prS n).toArray⟩ : ByteArray).size <= 100000000000:=by
 rw [sizeOf_]
 unfold prS
 have:=inkN_len n hsm
 split
 ·omega
 ·simp
set_option maxHeartbeats 8000000 in
theorem walk_InkbracePrints (n : Nd) (A : Option Addr) (c : Nat) (ho : okW 1048576 n) (w : World) (hw : Nm.StdW w) (hA : NAt (fun b _ => b < w.heap.size) w n A c) :
 Calls Tryz.prog 5 #[.agg #[.int .i64 n.k,.string n.t,.string n.v,.slice A n.kids.length c]] w fun e w' => e = .returned (.bool true) /\ Below w.heap.size w w':=by
 have bX:=Blk.new w 24 #[.int .i64 n.k,.string n.t,.string n.v,.slice A n.kids.length c]
 have al1:=al_nd w #[.int .i64 n.k,.string n.t,.string n.v,.slice A n.kids.length c]
 have hL:=fun w' h => ilives_any w' h
 obtain ⟨W0,hW0⟩ : ∃ W0,w.alloc (.cells #[.int .i64 n.k,.string n.t,.string n.v,.slice A n.kids.length c] 24) = W0:=⟨_,rfl⟩
 rw [hW0] at bX al1
 have HX:=Lib.hid bX
 have HB:=Lib.hid al1
 have HA:=Lib.hid (hA.upp al1)
 obtain ⟨x0,x1,x2,x3⟩:=nbox bX
 have HF:=Lib.hid (ifew_any n _ A c W0 HA.out)
 have HK:=Lib.hid (ifew_ok ho (by omega))
 have hsm:=small_of n ho
 clear bX al1 hA
 go_enter Tryz.func5,Tryz.ntmps5
 go_wp2_with fail
 clear hW0
 refine HF.out.mono ?_
 rintro e w1 ⟨rfl,hb1⟩
 generalize decide (0 <= fewN n 200 20) = f1 at *
 have HX1:=Lib.hid (HX.out.below hb1 HX.out.lt)
 have HB1:=Lib.hid (HB.out.trans (hb1.mono HB.out.size))
 have HA1:=Lib.hid (HA.out.upp hb1)
 have hs1:=HB1.out.size
 clear hb1 HX HB HA HF x0 x1 x2 x3
 cases f1 with
 | false =>
  clear HK
  go_wp2_with fail
  refine (hL _ (hw.below HB1.out)).mono ?_
  rintro e w3 ⟨rfl,hb3⟩
  have HB3:=Lib.hid (HB1.out.trans (hb3.mono hs1))
  clear hb3
  go_wp2
  go_ret
  exact ⟨rfl,HB3.out⟩
 | true =>
  obtain ⟨hok,hsz⟩:=HK.out rfl
  obtain ⟨x0,x1,x2,x3⟩:=nbox HX1.out
  have hP:=inkprint_any n A c w1 (hw.below HB1.out) HA1.out hok (by omega) may_small
  have HRO : Hid (∀ w,NAt (fun b _ => b < w.heap.size) w n A c -> Calls Tryz.prog 12 #[.int .i64 1,.agg #[.int .i64 n.k,.string n.t,.string n.v,.slice A n.kids.length c]] w fun e w' => ∃ v,e = .returned (.tuple #[v,.int .i64 (prE n)]) /\ IRead w' v (prP n) /\ Below w.heap.size w w'):=Lib.hid fun w h => iof_any n A c w h hsm (by omega)
  have HRP : Hid (∀ w,NAt (fun b _ => b < w.heap.size) w n A c -> Calls Tryz.prog 17 #[.agg #[.int .i64 n.k,.string n.t,.string n.v,.slice A n.kids.length c]] w fun e w' => e = .returned (.string ⟨(inkN n).toArray⟩) /\ Below w.heap.size w w'):=Lib.hid fun w h => rink_any n _ A c w h hsm (by omega)
  have HPL:=Lib.hid (prP_len n (by omega))
  have HSS:=Lib.hid (prS_size n hsm (by omega))
  have HSE : Hid (prS n = if prE n = 0 then inkN n else []):=Lib.hid rfl
  have HPE : Hid (prE n = 0 -> prP n = []):=Lib.hid prP_ok
  unfold PrPost at hP
  obtain ⟨E,hE⟩ : ∃ E,prE n = E:=⟨_,rfl⟩
  obtain ⟨SS,hSS⟩ : ∃ SS,prS n = SS:=⟨_,rfl⟩
  obtain ⟨PP,hPP⟩ : ∃ PP,prP n = PP:=⟨_,rfl⟩
  obtain ⟨IN,hIN⟩ : ∃ IN,inkN n = IN:=⟨_,rfl⟩
  rw [hE,hSS,hPP] at hP
  rw [hE,hPP] at HRO
  rw [hIN] at HRP
  rw [hPP] at HPL
  rw [hSS] at HSS
  rw [hSS,hE,hIN] at HSE
  clear HK hok hsz ho hsm hE hSS hPP hIN HPE
  go_wp2_with fail
  refine hP.mono ?_
  rintro e w2 ⟨va,rfl,hva,hb2⟩
  have HX2:=Lib.hid (HX1.out.below hb2 HX1.out.lt)
  have HB2:=Lib.hid (HB1.out.trans (hb2.mono hs1))
  have HA2:=Lib.hid (HA1.out.upp hb2)
  have hs2:=HB2.out.size
  have HVA:=Lib.hid hva
  have hC2:=HRO.out w2 HA2.out
  obtain ⟨x0,x1,x2,x3⟩:=nbox HX2.out
  clear hb2 HX1 HB1 HA1 hs1 hva hP HRO
  go_wp2_with fail
  refine hC2.mono ?_
  rintro e w3 ⟨vb,rfl,hvb,hb3⟩
  obtain ⟨Aa,ca,rfl,hca⟩:=HVA.out.below hb3
  obtain ⟨Ab,cb,rfl,hcb⟩:=hvb
  have HCA:=Lib.hid hca
  have HCB:=Lib.hid hcb
  have HX3:=Lib.hid (HX2.out.below hb3 HX2.out.lt)
  have HB3:=Lib.hid (HB2.out.trans (hb3.mono hs2))
  have HA3:=Lib.hid (HA2.out.upp hb3)
  have hs3:=HB3.out.size
  obtain ⟨N,hN⟩ : ∃ N,PP.length = N:=⟨_,rfl⟩
  have HN:=Lib.hid hN
  rw [hN] at HPL ⊢
  have hNl : N <= 100000000:=HPL.out
  have z1 : decide (E = E) = true:=decide_eq_true rfl
  have z2 : (E == E) = true:=by simp
  have z3 : (E != E) = false:=by simp
  clear hb3 HX2 HB2 HA2 hs2 hC2 x0 x1 x2 x3 HVA hca hcb hN
  go_wp2
  go_loopw [9] (fun i wr => ∃ j : Nat,j <= N /\ i = .int .i64 (j : Int) /\ Hid (Below w3.heap.size w3 wr)) (fun i _ => N - (intOf i).toNat)
  case atStart => exact ⟨0,Nat.zero_le _,rfl,Lib.hid (Below.refl _ _)⟩
  case round =>
   obtain ⟨j,hj,rfl,HW⟩:=hrel
   by_cases hlt : j < N
   case pos =>
    obtain ⟨X,hX⟩ : ∃ X,PP[j]'(by rw [HN.out]; exact hlt) = X:=⟨_,rfl⟩
    obtain ⟨a1,rfl,h1⟩:=HCA.out (by rw [HN.out]; omega)
    obtain ⟨b1,rfl,h2⟩:=HCB.out (by rw [HN.out]; omega)
    have c1:=h1 j (by rw [HN.out]; exact hlt)
    have c2:=h2 j (by rw [HN.out]; exact hlt)
    rw [hX] at c1 c2
    have d1 : wr.cell? (a1.add j) = some (.int .i64 X):=(HW.out.cell (cell_lt c1)).trans c1
    have d2 : wr.cell? (b1.add j) = some (.int .i64 X):=(HW.out.cell (cell_lt c2)).trans c2
    have z : (X != X) = false:=by simp
    clear h1 h2 hX c1 c2 z1 z2 z3
    go_wp2
    go_quiet (fail)
    go_wp2
    go_roundw
    case rel => exact ⟨j + 1,by omega,by go_num,Lib.hid (below_drewN HW.out _)⟩
    case measure => first | (simp [intOf]; done) | (simp [intOf]; omega)
   case neg =>
    obtain rfl : j = N:=by omega
    have HBr:=Lib.hid (HB3.out.trans (HW.out.mono hs3))
    have hXr:=HX3.out.below HW.out HX3.out.lt
    obtain ⟨x0,x1,x2,x3⟩:=nbox hXr
    have hAr:=HA3.out.upp HW.out
    clear HX3 HA3 HCA HCB hXr
    by_cases h0 : E = 0
    case neg =>
     have y1:=ibeq h0
     have y2:=ibne h0
     obtain rfl : SS = []:=by rw [HSE.out,if_neg h0]
     have hL4:=hL _ (hw.below HBr.out)
     clear HSE h0 HRP z1 z2 z3
     go_wp2_with fail
     refine hL4.mono ?_
     rintro e w5 ⟨rfl,hb5⟩
     have HB5:=Lib.hid (HBr.out.trans (hb5.mono HBr.out.size))
     clear hb5 hL4
     go_wp2
     go_ret
     exact ⟨rfl,HB5.out⟩
    case pos =>
     subst h0
     obtain rfl : SS = IN:=by rw [HSE.out,if_pos rfl]
     have hR4:=HRP.out wr hAr
     have hL4:=fun w' h => hL w' (hw.below (HBr.out.trans h))
     clear HSE HRP hL
     go_wp2_with fail
     refine hR4.mono ?_
     rintro e w5 ⟨rfl,hb5⟩
     have hB5:=HBr.out.trans (hb5.mono HBr.out.size)
     have HB5:=Lib.hid hB5
     have hL5:=hL4 w5 (hb5.mono HBr.out.size)
     clear hb5 hR4 hB5 hL4
     go_wp2_with fail
     refine hL5.mono ?_
     rintro e w6 ⟨rfl,hb6⟩
     have HB6:=Lib.hid (HB5.out.trans (hb6.mono HB5.out.size))
     clear hb6 hL5
     go_wp2
     go_ret
     exact ⟨rfl,HB6.out⟩
def tellL (st : List Pt) (l : List Ev) (x : Ev) : List Ev:=if stepE st x = 0 then l ++ [x] else l
def bare (k : Int) : Ev:=⟨k,⟨#[]⟩,⟨#[]⟩⟩
def mayB1 (nm : ByteArray) (b : UInt8) : Bool:=Nm.begB (nm.data.toList ++ [b])
def blankB (b : UInt8) : Bool:=decide (b.toNat = 32 \/ b.toNat = 9 \/ b.toNat = 10 \/ b.toNat = 13)
def endS (nm : ByteArray) : ByteArray:=if Nm.isB nm.data.toList = true then Nm.readS nm.data.toList else ⟨#[]⟩
def endC (nm : ByteArray) : Int:=if Nm.isB nm.data.toList = true then Nm.readC nm.data.toList else 2
structure Mc where
 a : Int
 op : List UInt8
 ek : Int
 et : ByteArray
 ev : ByteArray
 rs : ByteArray
 nm : ByteArray
 q : Qt.QS
def mc0 : Mc:=⟨0,[],0,⟨#[]⟩,⟨#[]⟩,⟨#[]⟩,⟨#[]⟩,Qt.plainQ []⟩
structure Bs where
 m : Mc
 st : List Pt
 l : List Ev
structure Br where
 b : Bs
 e : Int
def tellB (m : Mc) (st : List Pt) (l : List Ev) (x : Ev) : Br:=⟨⟨m,stepS st x,tellL st l x⟩,stepE st x⟩
def topB (op : List UInt8) : UInt8:=op.getLastD 0
def finishB (s : Bs) : Br:=tellB { s.m with op:=s.m.op.dropLast,a:=5 } s.st s.l (bare (if (topB s.m.op).toNat = 125 then 9 else 6))
def beginB (s : Bs) (k : Int) (c : UInt8) (a : Int) : Br:=tellB { s.m with op:=s.m.op ++ [c],a:=a } s.st s.l (bare k)
def letterB (s : Bs) (b : UInt8) : Br :=
 if s.m.rs.data.toList.head? = some b then
  (if s.m.rs.size = 1 then tellB { s.m with rs:=s.m.rs.extract 1 s.m.rs.size,a:=5 } s.st s.l ⟨s.m.ek,s.m.et,s.m.ev⟩
   else ⟨{ s with m:={ s.m with rs:=s.m.rs.extract 1 s.m.rs.size } },0⟩)
 else ⟨s,2⟩
def wordB (s : Bs) (k : Int) (t r : ByteArray) : Br:=⟨{ s with m:={ s.m with a:=6,ek:=k,et:=t,ev:=⟨#[]⟩,rs:=r } },0⟩
def stringB (s : Bs) (k : Int) : Br:=⟨{ s with m:={ s.m with a:=8,ek:=k,et:=⟨#[]⟩,ev:=⟨#[]⟩,q:=Qt.plainQ [] } },0⟩
def charB (s : Bs) (b : UInt8) : Br :=
 let r:=Qt.qStep s.m.q (b.toNat : Int)
 if r.e ≠ 0 \/ r.done = false then ⟨{ s with m:={ s.m with q:=r.q } },r.e⟩
 else tellB { s.m with q:=r.q,a:=if s.m.ek = 8 then 4 else 5,et:=⟨r.q.xs.toArray⟩ } s.st s.l ⟨s.m.ek,⟨r.q.xs.toArray⟩,s.m.ev⟩
def digitB (s : Bs) (b : UInt8) : Br:=if 30 <= s.m.nm.size then ⟨s,4⟩ else ⟨{ s with m:={ s.m with nm:=s.m.nm ++ ⟨#[b]⟩ } },0⟩
def endNumB (s : Bs) : Br :=
 if endC s.m.nm ≠ 0 then ⟨{ s with m:={ s.m with nm:=⟨#[]⟩ } },endC s.m.nm⟩
 else tellB { s.m with nm:=⟨#[]⟩,a:=5 } s.st s.l ⟨3,endS s.m.nm,⟨#[]⟩⟩
def valueB (s : Bs) (b : UInt8) : Br :=
 if b.toNat = 91 then beginB s 5 93 1 else if b.toNat = 123 then beginB s 7 125 2 else if b.toNat = 34 then stringB s 4
 else if b.toNat = 110 then wordB s 1 ⟨#[]⟩ ⟨#[117,108,108]⟩ else if b.toNat = 116 then wordB s 2 ⟨#[116,114,117,101]⟩ ⟨#[114,117,101]⟩
 else if b.toNat = 102 then wordB s 2 ⟨#[102,97,108,115,101]⟩ ⟨#[97,108,115,101]⟩
 else if mayB1 s.m.nm b = false then ⟨s,2⟩ else digitB { s with m:={ s.m with a:=7 } } b
def behindB (s : Bs) (b : UInt8) : Br :=
 if s.m.op = [] then ⟨s,2⟩ else if b = topB s.m.op then finishB s else if b.toNat ≠ 44 then ⟨s,2⟩
 else if (topB s.m.op).toNat = 125 then ⟨{ s with m:={ s.m with a:=3 } },0⟩ else ⟨{ s with m:={ s.m with a:=0 } },0⟩
def markB (s : Bs) (b : UInt8) : Br :=
 if s.m.a = 4 /\ b.toNat = 58 then ⟨{ s with m:={ s.m with a:=0 } },0⟩
 else if (s.m.a = 1 /\ b.toNat = 93) \/ (s.m.a = 2 /\ b.toNat = 125) then finishB s
 else if (s.m.a = 2 \/ s.m.a = 3) /\ b.toNat = 34 then stringB s 8
 else if s.m.a = 0 \/ s.m.a = 1 then valueB s b else if s.m.a = 5 then behindB s b else ⟨s,2⟩
def plainB (s : Bs) (b : UInt8) : Br:=if blankB b = true then ⟨s,0⟩ else markB s b
def stepB (s : Bs) (b : UInt8) : Br :=
 if s.m.a = 6 then letterB s b else if s.m.a = 8 then charB s b
 else if s.m.a = 7 then (if mayB1 s.m.nm b = true then digitB s b else if (endNumB s).e ≠ 0 then endNumB s else plainB (endNumB s).b b)
 else plainB s b
def endB (s : Bs) : Br :=
 let r:=if s.m.a = 7 then endNumB s else ⟨s,0⟩
 if r.e ≠ 0 then r else if r.b.m.a ≠ 5 \/ r.b.m.op ≠ [] then ⟨r.b,2⟩ else ⟨r.b,0⟩
end Go.Proofs.YtbnppjmmlfncmaaGreatDoor
