/-
  carry: Row; the law's own examples.
  The walk of CarryWords.
  inkbrace's law: few; the document's example.
  inkbrace's law: copied.
  A tree's texts are short (pure).
  The walk of InkbraceStays.
-/
import Derived.Test.YtbnppjmmlfncmaaGreatDoorIsA37
import Derived.Test.YtbnppjmmlfncmaaGreatDoorIsA21
import Derived.Test.YtbnppjmmlfncmaaGreatDoorIsA05
import Derived.Test.YtbnppjmmlfncmaaGreatDoorIsA22
import Derived.Test.YtbnppjmmlfncmaaGreatDoorIsA23
import Derived.Test.YtbnppjmmlfncmaaGreatDoorIsA08
import Derived.Test.YtbnppjmmlfncmaaGreatDoorIsA20
set_option maxRecDepth 100000
set_option linter.unusedSimpArgs false
set_option linter.unusedVariables false
namespace Go.Proofs.YtbnppjmmlfncmaaGreatDoor
open Go.RowKit Go.Maps
theorem ifew_any (n : Nd) (S : Nat -> Nat -> Prop) (A : Option Addr) (c : Nat) (w : World) (hA : NAt S w n A c) :
 Calls Tryz.prog 14 #[.agg #[.int .i64 n.k,.string n.t,.string n.v,.slice A n.kids.length c]] w fun e w' => e = .returned (.bool (decide (0 <= fewN n 200 20))) /\ Below w.heap.size w w':=by
 have hal:=al_nd w #[.int .i64 n.k,.string n.t,.string n.v,.slice A n.kids.length c]
 have hF:=rfew_any n 200 20 S A c _ (by omega) (by omega) (by omega) (by omega) (hA.below hal)
 generalize fewN n 200 20 = r at *
 go_enter Tryz.func14,Tryz.ntmps14
 go_wp2_with (first
  | (go_at_call 23; refine hF.mono ?_; clear hF; rintro e w5 ⟨rfl,hb5⟩))
 go_ret
 exact ⟨rfl,hal.trans (hb5.mono hal.size)⟩
def liveI : Nd:=.mk 7 ⟨#[]⟩ ⟨#[]⟩ [.mk 8 ⟨#[97]⟩ ⟨#[]⟩ [.mk 5 ⟨#[]⟩ ⟨#[]⟩ [.mk 3 ⟨#[49]⟩ ⟨#[]⟩ [],.mk 4 ⟨#[120]⟩ ⟨#[]⟩ []]]]
theorem liveI_ok : okT liveI:=by simp [liveI,okT,okTL,okN,Nd.k,Nd.t,Nd.v,ByteArray.size]
theorem liveI_small : smallT liveI:=by simp [liveI,smallT,smallL,ByteArray.size]
theorem liveI_size : sizeN liveI <= 90000:=by decide
def livI (w : World) : World:=((w.alloc (.cells #[.int .i64 3,.string ⟨#[49]⟩,.string ⟨#[]⟩,.slice none 0 0,.int .i64 4,.string ⟨#[120]⟩,.string ⟨#[]⟩,.slice none 0 0] 24)).alloc (.cells #[.int .i64 5,.string ⟨#[]⟩,.string ⟨#[]⟩,.slice (some ⟨w.heap.size,0,none⟩) 2 2] 24)).alloc (.cells #[.int .i64 8,.string ⟨#[97]⟩,.string ⟨#[]⟩,.slice (some ⟨w.heap.size + 1,0,none⟩) 1 1] 24)
theorem livI_below (w : World) : Below w.heap.size w (livI w):=(((Below.refl _ _).alloc (Nat.le_refl _) _).alloc (by simp) _).alloc (by simp; omega) _
theorem livI_at (w : World) : NAt (fun b _ => b < (livI w).heap.size) (livI w) liveI (some ⟨w.heap.size + 2,0,none⟩) 1:=by
 have hs : (livI w).heap.size = w.heap.size + 3:=by simp [livI]
 have b0 : Blk (livI w) w.heap.size 24 #[.int .i64 3,.string ⟨#[49]⟩,.string ⟨#[]⟩,.slice none 0 0,.int .i64 4,.string ⟨#[120]⟩,.string ⟨#[]⟩,.slice none 0 0]:=((Blk.new w _ _).alloc _).alloc _
 have b1 : Blk (livI w) (w.heap.size + 1) 24 #[.int .i64 5,.string ⟨#[]⟩,.string ⟨#[]⟩,.slice (some ⟨w.heap.size,0,none⟩) 2 2]:=by
  have:=Blk.new (w.alloc (.cells #[.int .i64 3,.string ⟨#[49]⟩,.string ⟨#[]⟩,.slice none 0 0,.int .i64 4,.string ⟨#[120]⟩,.string ⟨#[]⟩,.slice none 0 0] 24)) 24 #[.int .i64 5,.string ⟨#[]⟩,.string ⟨#[]⟩,.slice (some ⟨w.heap.size,0,none⟩) 2 2]
  rw [World.size_alloc] at this
  exact this.alloc _
 have b2 : Blk (livI w) (w.heap.size + 2) 24 #[.int .i64 8,.string ⟨#[97]⟩,.string ⟨#[]⟩,.slice (some ⟨w.heap.size + 1,0,none⟩) 1 1]:=by
  have:=Blk.new ((w.alloc (.cells #[.int .i64 3,.string ⟨#[49]⟩,.string ⟨#[]⟩,.slice none 0 0,.int .i64 4,.string ⟨#[120]⟩,.string ⟨#[]⟩,.slice none 0 0] 24)).alloc (.cells #[.int .i64 5,.string ⟨#[]⟩,.string ⟨#[]⟩,.slice (some ⟨w.heap.size,0,none⟩) 2 2] 24)) 24 #[.int .i64 8,.string ⟨#[97]⟩,.string ⟨#[]⟩,.slice (some ⟨w.heap.size + 1,0,none⟩) 1 1]
  rw [World.size_alloc,World.size_alloc] at this
  exact this
 rw [NAt.def_]
 refine ⟨Nat.le_refl _,by decide,fun _ => ⟨w.heap.size + 2,0,rfl,by omega,fun j hj => ?_⟩⟩
 obtain rfl : j = 0:=by simpa [liveI,Nd.kids] using hj
 refine ⟨some ⟨w.heap.size + 1,0,none⟩,1,b2.cell 0,b2.cell 1,b2.cell 2,b2.cell 3,?_⟩
 rw [NAt.def_]
 refine ⟨Nat.le_refl _,by decide,fun _ => ⟨w.heap.size + 1,0,rfl,by omega,fun j hj => ?_⟩⟩
 obtain rfl : j = 0:=by simpa [liveI,Nd.kids] using hj
 refine ⟨some ⟨w.heap.size,0,none⟩,2,b1.cell 0,b1.cell 1,b1.cell 2,b1.cell 3,?_⟩
 rw [NAt.def_]
 refine ⟨Nat.le_refl _,by decide,fun _ => ⟨w.heap.size,0,rfl,by omega,fun j hj => ?_⟩⟩
 have hj2 : j < 2:=by simpa [liveI,Nd.kids] using hj
 match j,hj2 with
 | 0,_ => exact ⟨none,0,b0.cell 0,b0.cell 1,b0.cell 2,b0.cell 3,NAt.leaf _ _ _ _ _ _⟩
 | 1,_ => exact ⟨none,0,b0.cell 4,b0.cell 5,b0.cell 6,b0.cell 7,NAt.leaf _ _ _ _ _ _⟩
theorem liveI_e : prE liveI = 0:=by decide +kernel
theorem liveI_s : prS liveI = [123,34,97,34,58,91,49,44,34,120,34,93,125]:=by decide +kernel
set_option maxHeartbeats 8000000 in
theorem ilives_any (w : World) (hw : Nm.StdW w) : Calls Tryz.prog 15 #[] w fun e w' => e = .returned (.bool true) /\ Below w.heap.size w w':=by
 have hN:=livI_at w
 have hb0:=livI_below w
 have hsz : (livI w).heap.size = w.heap.size + 3:=by simp [livI]
 obtain ⟨W1,hW1⟩ : ∃ W1,(livI w).alloc (.cells #[.int .i64 7,.string ⟨#[]⟩,.string ⟨#[]⟩,.slice (some ⟨w.heap.size + 2,0,none⟩) 1 1] 24) = W1:=⟨_,rfl⟩
 have bX:=Blk.new (livI w) 24 #[.int .i64 7,.string ⟨#[]⟩,.string ⟨#[]⟩,.slice (some ⟨w.heap.size + 2,0,none⟩) 1 1]
 have al1:=al_nd (livI w) #[.int .i64 7,.string ⟨#[]⟩,.string ⟨#[]⟩,.slice (some ⟨w.heap.size + 2,0,none⟩) 1 1]
 rw [hW1] at bX al1
 rw [hsz] at bX
 have hN1:=hN.upp al1
 have hb1:=hb0.trans (al1.mono hb0.size)
 have x0 : W1.cell? ⟨w.heap.size + 3,0,none⟩ = some (.int .i64 7):=bX.cell 0
 have x1 : W1.cell? ⟨w.heap.size + 3,1,none⟩ = some (.string ⟨#[]⟩):=bX.cell 1
 have x2 : W1.cell? ⟨w.heap.size + 3,2,none⟩ = some (.string ⟨#[]⟩):=bX.cell 2
 have x3 : W1.cell? ⟨w.heap.size + 3,3,none⟩ = some (.slice (some ⟨w.heap.size + 2,0,none⟩) 1 1):=bX.cell 3
 have hcR:=inkprint_any liveI _ _ W1 (hw.below hb1) hN1 liveI_ok liveI_size (fun _ => liveI_small)
 unfold PrPost at hcR
 rw [liveI_e,liveI_s] at hcR
 have HB1:=Lib.hid hb1
 clear hN hb0 al1 bX hN1 hb1
 unfold livI at hW1
 go_enter Tryz.func15,Tryz.ntmps15
 go_wp2_with fail
 refine hcR.mono ?_
 rintro e w2 ⟨v,rfl,hv,hb2⟩
 have H2:=Lib.hid (HB1.out.trans (hb2.mono HB1.out.size))
 clear hcR hW1 x0 x1 x2 x3 hv hb2 hsz
 go_wp2
 go_ret
 exact ⟨rfl,H2.out⟩
theorem size_memI {n m : Nd} (h : m ∈ n.kids) : sizeN m < sizeN n:=by
 obtain ⟨k,t,v,l⟩:=n
 simp only [Nd.kids] at h
 have key : ∀ l : List Nd,m ∈ l -> sizeN m <= sizeL l:=by
  intro l
  induction l with
  | nil => intro h; cases h
  | cons x r ih =>
   intro h
   simp only [sizeL]
   rcases List.mem_cons.1 h with rfl | h
   ·omega
   ·have:=ih h; omega
 have:=key l h
 simp only [sizeN]
 omega
set_option maxHeartbeats 8000000 in
theorem icopied_any (n : Nd) : ∀ (S : Nat -> Nat -> Prop) (A : Option Addr) (c : Nat) (w : World),sizeN n <= 1000000 -> NAt S w n A c ->
 Calls Tryz.prog 22 #[.agg #[.int .i64 n.k,.string n.t,.string n.v,.slice A n.kids.length c]] w (CPost n w):=by
 induction n using Nd.ind with
 | h k t v kids ih =>
  intro S A c w hz hA
  unfold CPost
  simp only [Nd.k,Nd.t,Nd.v,Nd.kids]
  obtain ⟨hlc,hcm,hkids⟩:=(NAt.def_ _ _ _).1 hA
  simp only [Nd.kids] at hlc hkids
  have hcm2 : c <= 9223372036854775807:=by simpa [maxLen] using hcm
  have hkl : kids.length <= 1000000:=by
   have:=sizeL_len kids
   simp only [sizeN] at hz
   omega
  have hksz : ∀ m ∈ kids,sizeN m <= 1000000:=fun m hm => by
   have:=size_memI (n:=.mk k t v kids) (m:=m) hm
   omega
  obtain ⟨W0,hW0⟩ : ∃ W0,(w.alloc (.cells #[.int .i64 k,.string t,.string v,.slice A kids.length c] 24)).alloc (.cells #[.int .i64 0,.string ⟨#[]⟩,.string ⟨#[]⟩,.slice none 0 0] 24) = W0:=⟨_,rfl⟩
  have HB0:=Lib.hid (show Below w.heap.size w W0 by rw [<- hW0]; exact ((Below.refl _ _).alloc (Nat.le_refl _) _).alloc (by simp) _)
  have HX:=Lib.hid (show Blk W0 w.heap.size 24 #[.int .i64 k,.string t,.string v,.slice A kids.length c] by rw [<- hW0]; exact (Blk.new w _ _).alloc _)
  have HY:=Lib.hid (show Blk W0 (w.heap.size + 1) 24 #[.int .i64 0,.string ⟨#[]⟩,.string ⟨#[]⟩,.slice none 0 0] by
   rw [<- hW0]
   have:=Blk.new (w.alloc (.cells #[.int .i64 k,.string t,.string v,.slice A kids.length c] 24)) 24 #[.int .i64 0,.string ⟨#[]⟩,.string ⟨#[]⟩,.slice none 0 0]
   rw [World.size_alloc] at this
   exact this)
  have hs0 : W0.heap.size = w.heap.size + 2:=by rw [<- hW0]; simp
  have HKT:=Lib.hid (show kids.take 0 = [] from rfl)
  clear hA hz
  go_enter Tryz.func22,Tryz.ntmps22
  go_wp2
  clear hW0
  go_loopw [3,4] (fun s i wr => ∃ (j : Nat) (A1 : Option Addr) (c1 : Nat) (ks : List KV),j <= kids.length /\ i = .int .i64 (j : Int) /\ s = .slice A1 j c1 /\ Hid (NRow wr W0.heap.size (.slice A1 j c1) ks) /\ Hid (ks.map (·.n) = kids.take j) /\ Hid (ks.length = j) /\ Hid (Below W0.heap.size W0 wr)) (fun _ i _ => kids.length - (intOf i).toNat)
  case atStart => exact ⟨0,none,0,[],Nat.zero_le _,rfl,rfl,Lib.hid (NRow.nil _ _),Lib.hid rfl,Lib.hid rfl,Lib.hid (Below.refl _ _)⟩
  case round =>
   obtain ⟨j,A1,c1,ks,hj,rfl,rfl,HR,HM,HL,HB⟩:=hrel
   have hbw : Below w.heap.size w wr:=HB0.out.trans (HB.out.mono (by omega))
   have hwr:=HB.out.size
   have hXr:=HX.out.below HB.out HX.out.lt
   have x3 : wr.cell? ⟨w.heap.size,3,none⟩ = some (.slice A kids.length c):=hXr.cell 3
   by_cases hlt : j < kids.length
   case pos =>
    obtain ⟨b,o,rfl,_,hkid⟩:=hkids (by omega)
    obtain ⟨B,cB,q0,q1,q2,q3,hn1⟩:=kid_cells (hkid j hlt) hbw
    have hih:=ih _ (List.getElem_mem hlt) S B cB wr (hksz _ (List.getElem_mem hlt)) hn1
    have HT:=Lib.hid (List.take_succ_eq_append_getElem hlt)
    unfold CPost at hih
    clear hkid hkids hn1 ih hksz
    generalize kids[j] = kd at *
    have hjc : j < c:=by omega
    have h63 : j + 1 <= maxLen:=by unfold maxLen; omega
    have h64 : (j + 1) * 64 <= 140737488355328:=by omega
    clear hbw hXr
    go_wp2_with fail
    refine hih.mono ?_
    rintro e w5 ⟨A5,c5,rfl,hF5,hb5⟩
    have al5 : Below w5.heap.size w5 (w5.alloc (.cells #[.int .i64 kd.k,.string kd.t,.string kd.v,.slice A5 kd.kids.length c5] 24)):=(Below.refl _ _).alloc (Nat.le_refl _) _
    have R6:=(HR.out.below hb5).below al5
    have F6:=Fresh.below hF5 al5
    have hrow6:=R6.row
    rw [HL.out] at hrow6
    have hs5:=hb5.size
    have hs6 : W0.heap.size <= (w5.alloc (.cells #[.int .i64 kd.k,.string kd.t,.string kd.v,.slice A5 kd.kids.length c5] 24)).heap.size:=by simp; omega
    have H7 : Hid (∀ v7 w7,OStep (w5.alloc (.cells #[.int .i64 kd.k,.string kd.t,.string kd.v,.slice A5 kd.kids.length c5] 24)) (.slice A1 j c1) w7 v7 -> w7.ownsRow W0.heap.size 24 4 v7 (j + 1) (kvCs ks ++ [.int .i64 kd.k,.string kd.t,.string kd.v,.slice A5 kd.kids.length c5]) -> ∃ A7 c7,v7 = .slice A7 (j + 1) c7 /\ NRow w7 W0.heap.size (.slice A7 (j + 1) c7) (ks ++ [⟨kd,A5,c5⟩]) /\ Below W0.heap.size W0 w7):=Lib.hid fun v7 w7 hO7 hown7 => by
     have R7 : NRow w7 W0.heap.size v7 (ks ++ [⟨kd,A5,c5⟩]):=R6.push (own_fresh F6 (by omega) (fun g hg => HR.out.lt g hg)) hO7 (by rw [HL.out]; exact hown7)
     obtain ⟨A7,c7,rfl⟩:=R7.shapeN (n:=j + 1) (by rw [List.length_append,HL.out]; rfl)
     exact ⟨A7,c7,rfl,R7,(HB.out.trans ((hb5.mono hwr).trans (al5.mono (by omega)))).trans (hO7.below hrow6 hs6)⟩
    have hrow7:=Lib.hid hrow6
    clear hih hb5 hF5 R6 F6 al5 hrow6 x3 q0 q1 q2 q3
    go_wp2_with (first
     | (at_builtin; refine wp_appO rfl _ _ 22 rfl W0.heap.size 24 _ 4 64 Tryz.underlying22 Tryz.infoNd rfl (by decide) (.slice A1 j c1) j (kvCs ks) [.int .i64 kd.k,.string kd.t,.string kd.v,.slice A5 kd.kids.length c5] rfl hrow7.out (by simp [Value.oneCell']) ⟨w5.heap.size,0,none⟩ 1 1 rfl rfl (by exact cellsOf4 w5 _ _ _ _ _) h63 h64 hs6 ?_; intro v7 w7 hown7 hO7; obtain ⟨A7,c7,rfl,hR7,hB7⟩:=H7.out v7 w7 hO7 hown7; have HR7:=Lib.hid hR7; have HB7:=Lib.hid hB7; clear hR7 hB7 hown7 hO7 H7 hrow7 hs6 hs5)
     | fail)
    go_roundw
    case rel => exact ⟨j + 1,A7,c7,ks ++ [⟨kd,A5,c5⟩],hlt,by go_num,rfl,HR7,Lib.hid (by rw [List.map_append,HM.out,HT.out]; rfl),Lib.hid (by rw [List.length_append,HL.out]; rfl),HB7⟩
    case measure => first | (simp [intOf]; done) | (simp [intOf]; omega)
   case neg =>
    have hje : j = kids.length:=by omega
    subst hje
    obtain ⟨A8,c8,hv8,hN8⟩:=HR.out.node k t v
    rw [HM.out,List.take_length] at hN8
    injection hv8 with e1 e2 e3
    subst e1 e3
    clear e2
    have hyr:=HY.out.below HB.out (by omega)
    have x0 : wr.cell? ⟨w.heap.size,0,none⟩ = some (.int .i64 k):=hXr.cell 0
    have x1 : wr.cell? ⟨w.heap.size,1,none⟩ = some (.string t):=hXr.cell 1
    have x2 : wr.cell? ⟨w.heap.size,2,none⟩ = some (.string v):=hXr.cell 2
    have xf : wr.frozen? ⟨w.heap.size,3,none⟩ = false:=hXr.frozen 3
    have f0 : wr.frozen? ⟨w.heap.size + 1,0,none⟩ = false:=hyr.frozen 0
    have f1 : wr.frozen? ⟨w.heap.size + 1,1,none⟩ = false:=hyr.frozen 1
    have f2 : wr.frozen? ⟨w.heap.size + 1,2,none⟩ = false:=hyr.frozen 2
    have f3 : wr.frozen? ⟨w.heap.size + 1,3,none⟩ = false:=hyr.frozen 3
    have d0 : wr.cell? ⟨w.heap.size + 1,0,none⟩ = some (.int .i64 0):=hyr.cell 0
    have d1 : wr.cell? ⟨w.heap.size + 1,1,none⟩ = some (.string ⟨#[]⟩):=hyr.cell 1
    have d2 : wr.cell? ⟨w.heap.size + 1,2,none⟩ = some (.string ⟨#[]⟩):=hyr.cell 2
    have d3 : wr.cell? ⟨w.heap.size + 1,3,none⟩ = some (.slice none 0 0):=hyr.cell 3
    have l2:=hyr.lt
    have l1:=hXr.lt
    go_wp2
    have z:=hXr.set_ 3 (.slice A1 kids.length c1)
    have y:=((((hyr.far (p:=⟨w.heap.size,3,none⟩) (by simp) (.slice A1 kids.length c1)).set_ 0 (.int .i64 k)).set_ 1 (.string t)).set_ 2 (.string v)).set_ 3 (.slice A1 kids.length c1)
    have hN9:=Fresh.set (Fresh.set (Fresh.set (Fresh.set (Fresh.set hN8 (p:=⟨w.heap.size,3,none⟩) (by simp; omega) (.slice A1 kids.length c1)) (p:=⟨w.heap.size + 1,0,none⟩) (by simp; omega) (.int .i64 k)) (p:=⟨w.heap.size + 1,1,none⟩) (by simp; omega) (.string t)) (p:=⟨w.heap.size + 1,2,none⟩) (by simp; omega) (.string v)) (p:=⟨w.heap.size + 1,3,none⟩) (by simp; omega) (.slice A1 kids.length c1)
    have hb9:=((((hbw.setCell (p:=⟨w.heap.size,3,none⟩) (by simp) (.slice A1 kids.length c1)).setCell (p:=⟨w.heap.size + 1,0,none⟩) (by simp) (.int .i64 k)).setCell (p:=⟨w.heap.size + 1,1,none⟩) (by simp) (.string t)).setCell (p:=⟨w.heap.size + 1,2,none⟩) (by simp) (.string v)).setCell (p:=⟨w.heap.size + 1,3,none⟩) (by simp) (.slice A1 kids.length c1)
    generalize ((((wr.setCell ⟨w.heap.size,3,none⟩ (.slice A1 kids.length c1)).setCell ⟨w.heap.size + 1,0,none⟩ (.int .i64 k)).setCell ⟨w.heap.size + 1,1,none⟩ (.string t)).setCell ⟨w.heap.size + 1,2,none⟩ (.string v)).setCell ⟨w.heap.size + 1,3,none⟩ (.slice A1 kids.length c1) = W at *
    have y0 : W.cell? ⟨w.heap.size + 1,0,none⟩ = some (.int .i64 k):=y.cell 0
    have y1 : W.cell? ⟨w.heap.size + 1,1,none⟩ = some (.string t):=y.cell 1
    have y2 : W.cell? ⟨w.heap.size + 1,2,none⟩ = some (.string v):=y.cell 2
    have y3 : W.cell? ⟨w.heap.size + 1,3,none⟩ = some (.slice A1 kids.length c1):=y.cell 3
    refine bodyPost_ret (v:=.agg #[.int .i64 k,.string t,.string v,.slice A1 kids.length c1]) ?_ rfl ⟨A1,c1,rfl,Fresh.lower hN9 (by omega),hb9⟩
    simp [results,Tryz.f22,go_sem,y0,y1,y2,y3]
theorem szL (t : ByteArray) : t.data.toList.length = t.size:=by simp
theorem empty_sz {t : ByteArray} (h : emptyT t = true) : t.size <= 48:=by
 have : t.data.toList = []:=of_decide_eq_true h
 rw [<- szL,this]
 simp
theorem valid_sz {t : ByteArray} (h : validL t.data.toList = true) : t.size <= 48:=by
 simp only [validL,Bool.and_eq_true,decide_eq_true_iff] at h
 rw [<- szL]
 exact h.1
theorem full_sz {t : ByteArray} (h : fullL t.data.toList = true) : t.size <= 48:=by
 rw [<- szL]
 unfold fullL at h
 cases hl : t.data.toList with
 | nil => simp
 | cons c r =>
  rw [hl] at h
  simp only [cutL] at h
  by_cases h48 : 48 < r.length + 1
  ·rw [if_pos h48] at h
   cases h
  ·simp only [List.length_cons]
   omega
theorem norm_sz {t : ByteArray} (h : normL t.data.toList = true) : t.size <= 48:=by
 rw [<- szL]
 unfold normL Nm.readL Nm.readE at h
 by_cases h30 : Nm.isB t.data.toList = true /\ t.data.toList.length <= 30
 ·omega
 ·rw [if_neg h30] at h
  cases h
theorem bool_sz {t : ByteArray} (h : boolL t.data.toList = true) : t.size <= 48:=by
 rw [<- szL]
 simp only [boolL,Bool.or_eq_true,decide_eq_true_iff] at h
 rcases h with h | h <;> rw [h] <;> simp
theorem formed_sz {x : Ev} (h : formedB x = true) : x.t.size <= 48 /\ x.v.size <= 48:=by
 unfold formedB at h
 split at h
 ·simp only [Bool.and_eq_true] at h
  exact ⟨empty_sz h.1,empty_sz h.2⟩
 split at h
 ·simp only [Bool.and_eq_true] at h
  exact ⟨bool_sz h.2,empty_sz h.1⟩
 split at h
 ·simp only [Bool.and_eq_true] at h
  exact ⟨norm_sz h.2,empty_sz h.1⟩
 split at h
 ·simp only [Bool.and_eq_true] at h
  exact ⟨valid_sz h.2,empty_sz h.1⟩
 split at h
 ·simp only [Bool.and_eq_true] at h
  exact ⟨full_sz h.2,empty_sz h.1⟩
 split at h
 ·simp only [Bool.and_eq_true] at h
  exact ⟨full_sz h.2,valid_sz h.1⟩
 ·cases h
theorem gram_small (n : Nd) : gram n -> smallT n:=by
 induction n using Nd.ind with
 | h k t v l ih =>
  intro h
  have h1:=formed_sz h.head.1
  simp only [Nd.t,Nd.v] at h1
  exact ⟨by omega,by omega,smallL_mem.2 fun m hm => ih m hm (h.kid hm)⟩
theorem may_small {n : Nd} (h : mayN n = 0) : smallT n:=gram_small n (may_gram h)
theorem ifew_ok {n : Nd} {R : Nat} (h : okW R n) (hR : R <= 140737488355328) (hf : decide (0 <= fewN n 200 20) = true) : okT n /\ sizeN n <= 200:=by
 have h1:=few_size (left:=200) (by omega) (of_decide_eq_true hf)
 exact ⟨okT_of n R h hR (by omega),by omega⟩
theorem CPost_upp {n : Nd} {A : Option Addr} {c : Nat} {base : Nat} {w : World} (h : NAt (Fresh base w) w n A c) : NAt (fun b _ => b < w.heap.size) w n A c :=
 h.weaken fun b _ hs => by
  obtain ⟨cur,hh⟩:=hs.2.2
  rcases Nat.lt_or_ge b w.heap.size with h | h
  ·exact h
  ·rw [Array.getElem?_eq_none h] at hh; cases hh
set_option maxHeartbeats 8000000 in
theorem walk_InkbraceStays (n : Nd) (A : Option Addr) (c : Nat) (ho : okW 140737488355328 n) (w : World) (hw : Nm.StdW w) (hA : NAt (fun b _ => b < w.heap.size) w n A c) :
 Calls Tryz.prog 8 #[.agg #[.int .i64 n.k,.string n.t,.string n.v,.slice A n.kids.length c]] w fun e w' => e = .returned (.bool true) /\ Below w.heap.size w w':=by
 have bX:=Blk.new w 24 #[.int .i64 n.k,.string n.t,.string n.v,.slice A n.kids.length c]
 have al1:=al_nd w #[.int .i64 n.k,.string n.t,.string n.v,.slice A n.kids.length c]
 have hL:=fun w' h => ilives_any w' h
 obtain ⟨W0,hW0⟩ : ∃ W0,w.alloc (.cells #[.int .i64 n.k,.string n.t,.string n.v,.slice A n.kids.length c] 24) = W0:=⟨_,rfl⟩
 rw [hW0] at bX al1
 have HX:=Lib.hid bX
 have HB:=Lib.hid al1
 have HA:=Lib.hid (hA.upp al1)
 obtain ⟨x0,x1,x2,x3⟩:=nbox bX
 have HF:=Lib.hid (ifew_any n _ A c W0 HA.out)
 have HK:=Lib.hid (ifew_ok ho (by omega))
 clear bX al1 hA
 go_enter Tryz.func8,Tryz.ntmps8
 go_wp2_with fail
 clear hW0
 refine HF.out.mono ?_
 rintro e w1 ⟨rfl,hb1⟩
 generalize decide (0 <= fewN n 200 20) = f1 at *
 have HX1:=Lib.hid (HX.out.below hb1 HX.out.lt)
 have HB1:=Lib.hid (HB.out.trans (hb1.mono HB.out.size))
 have HA1:=Lib.hid (HA.out.upp hb1)
 have hs1:=HB1.out.size
 clear hb1 HX HB HA HF x0 x1 x2 x3
 cases f1 with
 | false =>
  clear HK
  go_wp2_with fail
  refine (hL _ (hw.below HB1.out)).mono ?_
  rintro e w3 ⟨rfl,hb3⟩
  have HB3:=Lib.hid (HB1.out.trans (hb3.mono hs1))
  clear hb3
  go_wp2
  go_ret
  exact ⟨rfl,HB3.out⟩
 | true =>
  obtain ⟨hok,hsz⟩:=HK.out rfl
  obtain ⟨x0,x1,x2,x3⟩:=nbox HX1.out
  have hC:=icopied_any n _ A c w1 (by omega) HA1.out
  have HPR : Hid (∀ (A : Option Addr) (c : Nat) (w : World),Nm.StdW w -> NAt (fun b _ => b < w.heap.size) w n A c -> Calls Tryz.prog 16 #[.agg #[.int .i64 n.k,.string n.t,.string n.v,.slice A n.kids.length c]] w (PrPost n w)):=Lib.hid fun A c w h1 h2 => inkprint_any n A c w h1 h2 hok (by omega) may_small
  have HSM : Hid (∀ (A A' : Option Addr) (c c' : Nat) (w : World),NAt (fun b _ => b < w.heap.size) w n A c -> NAt (fun b _ => b < w.heap.size) w n A' c' -> Calls Tryz.prog 21 #[.agg #[.int .i64 n.k,.string n.t,.string n.v,.slice A n.kids.length c],.agg #[.int .i64 n.k,.string n.t,.string n.v,.slice A' n.kids.length c']] w fun e w' => e = .returned (.bool true) /\ Below w.heap.size w w'):=Lib.hid fun A A' c c' w h1 h2 => by
   have:=rsame_any n n _ _ A A' c c' w h1 h2
   rw [sameN_refl] at this
   exact this
  unfold PrPost at HPR
  generalize prE n = E at *
  generalize prS n = SS at *
  generalize prP n = PP at *
  clear HK hok hsz ho
  go_wp2_with fail
  refine hC.mono ?_
  rintro e w2 ⟨A2,c2,rfl,hN2,hb2⟩
  have hX2:=HX1.out.below hb2 HX1.out.lt
  have al2:=al_nd w2 #[.int .i64 n.k,.string n.t,.string n.v,.slice A2 n.kids.length c2]
  have bY:=Blk.new w2 24 #[.int .i64 n.k,.string n.t,.string n.v,.slice A2 n.kids.length c2]
  obtain ⟨W2,hW2⟩ : ∃ W2,w2.alloc (.cells #[.int .i64 n.k,.string n.t,.string n.v,.slice A2 n.kids.length c2] 24) = W2:=⟨_,rfl⟩
  rw [hW2] at al2 bY
  have HX2:=Lib.hid (hX2.below al2 hX2.lt)
  have HY2:=Lib.hid bY
  have HN2:=Lib.hid ((CPost_upp hN2).upp al2)
  have HA2:=Lib.hid ((HA1.out.upp hb2).upp al2)
  have HB2:=Lib.hid (HB1.out.trans ((hb2.trans (al2.mono hb2.size)).mono hs1))
  have hP1:=HPR.out A2 c2 W2 (hw.below HB2.out) HN2.out
  obtain ⟨y0,y1,y2,y3⟩:=nbox bY
  clear hb2 hX2 al2 bY hN2 HX1 HB1 HA1 hs1 hC x0 x1 x2 x3
  go_wp2_with fail
  clear hW2
  refine hP1.mono ?_
  rintro e w3 ⟨v3,rfl,_,hb3⟩
  have HX3:=Lib.hid (HX2.out.below hb3 HX2.out.lt)
  have HY3:=Lib.hid (HY2.out.below hb3 HY2.out.lt)
  have HN3:=Lib.hid (HN2.out.upp hb3)
  have HA3:=Lib.hid (HA2.out.upp hb3)
  have HB3:=Lib.hid (HB2.out.trans (hb3.mono HB2.out.size))
  have hP2:=HPR.out A c w3 (hw.below HB3.out) HA3.out
  obtain ⟨x0,x1,x2,x3⟩:=nbox HX3.out
  clear hb3 hP1 HX2 HY2 HN2 HA2 HB2 HPR y0 y1 y2 y3
  go_wp2_with fail
  refine hP2.mono ?_
  rintro e w4 ⟨v4,rfl,_,hb4⟩
  have HX4:=Lib.hid (HX3.out.below hb4 HX3.out.lt)
  have HY4:=Lib.hid (HY3.out.below hb4 HY3.out.lt)
  have HN4:=Lib.hid (HN3.out.upp hb4)
  have HA4:=Lib.hid (HA3.out.upp hb4)
  have HB4:=Lib.hid (HB3.out.trans (hb4.mono HB3.out.size))
  have hS:=HSM.out A2 A c2 c w4 HN4.out HA4.out
  obtain ⟨x0,x1,x2,x3⟩:=nbox HX4.out
  obtain ⟨y0,y1,y2,y3⟩:=nbox HY4.out
  clear hb4 hP2 HX3 HY3 HN3 HA3 HB3 HSM
  go_wp2_with fail
  refine hS.mono ?_
  rintro e w5 ⟨rfl,hb5⟩
  have HB5:=Lib.hid (HB4.out.trans (hb5.mono HB4.out.size))
  have hL5:=hL w5 (hw.below HB5.out)
  have z1 : decide (E = E) = true:=decide_eq_true rfl
  have z2 : (E == E) = true:=by simp
  clear hb5 hS x0 x1 x2 x3 y0 y1 y2 y3 hL HX4 HY4 HN4 HA4 HB4
  go_wp2_with fail
  refine hL5.mono ?_
  rintro e w6 ⟨rfl,hb6⟩
  have HB6:=Lib.hid (HB5.out.trans (hb6.mono HB5.out.size))
  clear hb6 hL5
  go_wp2
  go_ret
  exact ⟨rfl,HB6.out⟩
end Go.Proofs.YtbnppjmmlfncmaaGreatDoor
