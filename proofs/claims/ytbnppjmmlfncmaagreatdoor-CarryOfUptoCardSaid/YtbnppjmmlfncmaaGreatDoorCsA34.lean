/-
  carry's reference: Rows, Deep.
  carry's reference: ways (the nodes above one); angle.
-/
import Derived.Test.YtbnppjmmlfncmaaGreatDoorCsA33
import Derived.Test.YtbnppjmmlfncmaaGreatDoorCsA31
import Derived.Test.YtbnppjmmlfncmaaGreatDoorCsA32
set_option maxRecDepth 100000
set_option linter.unusedSimpArgs false
set_option linter.unusedVariables false
namespace Go.Proofs.YtbnppjmmlfncmaaGreatDoor
open Go.RowKit Go.Maps
set_option maxHeartbeats 4000000 in
theorem rrows_any (n : Nd) : AskAt 135 rowsB n:=by
 intro S A c w hA
 obtain ⟨k,t,v,l⟩:=n
 have al:=al_nd w #[.int .i64 k,.string t,.string v,.slice A l.length c]
 obtain ⟨hlc,hcm,hkids⟩:=(NAt.def_ _ _ _).1 hA
 simp only [Nd.kids] at hlc hkids
 have hcm2 : c <= 9223372036854775807:=by simpa [maxLen] using hcm
 have hrb : rowsB (.mk k t v l) = (decide (k = 5) && (decide (0 < l.length) && (l.all fun m => decide (m.k = 7)))):=rfl
 rw [hrb]
 obtain ⟨R,hR⟩ : ∃ R,(l.all fun m => decide (m.k = 7)) = R:=⟨_,rfl⟩
 rw [hR]
 simp only [Nd.k,Nd.t,Nd.v,Nd.kids]
 by_cases h5 : k = 5
 case neg =>
  rw [decide_eq_false h5,Bool.false_and]
  have z1:=ibeq h5
  have z2:=ibne h5
  clear hkids hA hrb h5
  go_enter Tryz.func135,Tryz.ntmps135
  go_wp2
  go_ret
  exact ⟨rfl,al⟩
 subst h5
 rw [decide_eq_true rfl,Bool.true_and]
 by_cases h0 : l.length = 0
 case pos =>
  rw [decide_eq_false (p:=0 < l.length) (by omega),Bool.false_and]
  rw [h0] at al ⊢
  clear hkids hA hrb h0
  go_enter Tryz.func135,Tryz.ntmps135
  go_wp2
  go_ret
  exact ⟨rfl,al⟩
 rw [decide_eq_true (p:=0 < l.length) (by omega),Bool.true_and]
 have z1 : ¬ (l.length : Int) = 0:=by omega
 have z2:=ibeq z1
 obtain ⟨b,o,rfl,_,hkid⟩:=hkids (by omega)
 have hX:=Blk.new w 24 #[.int .i64 5,.string t,.string v,.slice (some ⟨b,o,none⟩) l.length c]
 obtain ⟨x0,x1,x2,x3⟩:=nbox (n:=.mk 5 t v l) hX
 simp only [Nd.k,Nd.t,Nd.v,Nd.kids] at x0 x1 x2 x3
 have HQ : Hid (∀ j (h : j < l.length),∃ W : World,True -> (w.alloc (.cells #[.int .i64 5,.string t,.string v,.slice (some ⟨b,o,none⟩) l.length c] 24)).cell? ⟨b,o + j * 4,none⟩ = some (.int .i64 (l.getD j dNd).k)):=Lib.hid fun j h => by
  have h1:=hkid j h
  rw [<- getDn h] at h1
  obtain ⟨B,cB,q0,_⟩:=kid_cells h1 al
  exact ⟨w,fun _ => q0⟩
 have HST : Hid (∀ j (h : j < l.length),(l.take (j + 1)).all (fun m => decide (m.k = 7)) = ((l.take j).all (fun m => decide (m.k = 7)) && decide ((l.getD j dNd).k = 7))):=Lib.hid fun j h => by
  rw [List.take_succ_eq_append_getElem h,List.all_append,List.all_cons,List.all_nil,Bool.and_true,getDn h]
 have HNO : Hid (∀ j (h : j < l.length),(l.getD j dNd).k ≠ 7 -> R = false):=Lib.hid fun j h hk => by
  rw [<- hR,List.all_eq_false]
  refine ⟨_,List.getElem_mem h,?_⟩
  rw [getDn h] at hk
  simpa using hk
 have HAL:=Lib.hid al
 have HEND : Hid ((l.take l.length).all (fun m => decide (m.k = 7)) = R):=Lib.hid (by rw [List.take_length]; exact hR)
 clear hkids hA hrb hkid hX al hR
 go_enter Tryz.func135,Tryz.ntmps135
 go_wp2
 go_loop [3] (fun i => ∃ k : Nat,k <= l.length /\ i = .int .i64 k /\ Hid ((l.take k).all (fun m => decide (m.k = 7)) = true)) (fun i => l.length - (intOf i).toNat)
 case atStart => exact ⟨0,Nat.zero_le _,rfl,Lib.hid rfl⟩
 case round =>
  obtain ⟨j,hj,rfl,HK⟩:=hrel
  by_cases hlt : j < l.length
  ·obtain ⟨_,hq⟩:=HQ.out j hlt
   have q0:=hq trivial
   have hst:=HST.out j hlt
   have hno:=HNO.out j hlt
   have hjc : j < c:=by omega
   clear hq HQ HST HNO
   generalize (l.getD j dNd).k = kk at *
   by_cases h7 : kk = 7
   ·subst h7
    rw [HK.out] at hst
    have HS2:=Lib.hid hst
    clear hst hno
    go_wp2
    go_round
    case rel => exact ⟨j + 1,hlt,by go_num,HS2⟩
    case measure => first | (simp [intOf]; done) | (simp [intOf]; omega)
   ·have HB2:=Lib.hid (hno h7)
    have y1:=ibeq h7
    have y2:=ibne h7
    clear hst hno
    go_wp2
    go_ret
    exact ⟨by rw [HB2.out] <;> rfl,HAL.out⟩
  ·obtain rfl : j = l.length:=by omega
   have hA:=HK.out
   rw [HEND.out] at hA
   have HA:=Lib.hid hA
   clear hA HQ HST HNO
   go_wp2
   go_ret
   exact ⟨by rw [HA.out] <;> rfl,HAL.out⟩
def WayAt (w : World) (way : List Nd) (n : Nd) (A : Option Addr) (c : Nat) : Prop:=NAt (fun _ _ => True) w (.mk 5 ⟨#[]⟩ ⟨#[]⟩ (way ++ [n])) A c
theorem WayAt.below {w w' : World} {way : List Nd} {n : Nd} {A : Option Addr} {c : Nat} (h : WayAt w way n A c) (hb : Below w.heap.size w w') : WayAt w' way n A c:=NAt.below h hb
theorem WayAt.nth {w : World} {way : List Nd} {n : Nd} {A : Option Addr} {c : Nat} (h : WayAt w way n A c) : way.length + 1 <= c /\ c <= 9223372036854775807 /\ ∃ b o,A = some ⟨b,o,none⟩ /\ (∀ j (h : j < way.length),KidAt (fun _ _ => True) w b (o + j * 4) (way.getD j dNd)) /\ KidAt (fun _ _ => True) w b (o + way.length * 4) n:=by
 obtain ⟨h1,h2,h3⟩:=(NAt.def_ _ _ _).1 h
 simp only [Nd.kids,List.length_append,List.length_cons,List.length_nil,Nat.zero_add] at h1 h3
 obtain ⟨b,o,ha,_,hk⟩:=h3 (by omega)
 refine ⟨h1,by simpa [maxLen] using h2,b,o,ha,fun j hj => ?_,?_⟩
 ·have:=hk j (by omega)
  rw [List.getElem_append_left hj,<- getDn hj] at this
  exact this
 ·have:=hk way.length (by omega)
  rw [List.getElem_append_right (Nat.le_refl _)] at this
  simpa using this
theorem lastN_at {way : List Nd} (h : 0 < way.length) : way.getD (way.length - 1) dNd = lastN way:=by
 unfold lastN
 rw [List.getD_eq_getElem?_getD,<- List.getLast?_eq_getElem?,List.getLastD_eq_getLast?]
theorem cnt_take (l : List Nd) (j : Nat) (h : j < l.length) : ((l.take (j + 1)).filter fun m => decide (m.k = 11)).length = ((l.take j).filter fun m => decide (m.k = 11)).length + if (l.getD j dNd).k = 11 then 1 else 0:=by
 rw [List.take_succ_eq_append_getElem h,List.filter_append,List.length_append,getDn h]
 by_cases hk : (l[j]).k = 11 <;> simp [hk]
theorem bindR_len : ∀ (l : List Nd) (acc : List (List UInt8)),(bindR l acc).length <= acc.length + l.length
 | [],acc => by simp [bindR]
 | m :: r,acc => by
  simp only [bindR]
  have:=bindR_len r (if ¬ m.k = 11 \/ spaceOf m.t = [] then acc else if spaceOf m.t ∈ acc then acc else acc ++ [spaceOf m.t])
  have h2 : (if ¬ m.k = 11 \/ spaceOf m.t = [] then acc else if spaceOf m.t ∈ acc then acc else acc ++ [spaceOf m.t]).length <= acc.length + 1:=by
   split
   ·omega
   ·split
    ·omega
    ·simp
  simp only [List.length_cons]
  omega
set_option maxHeartbeats 8000000 in
theorem rangle_any (way : List Nd) (n : Nd) (hnt : n.t.size <= 1048576) (hnv : n.v.size <= 1048576) (hkt : ∀ m ∈ n.kids,m.t.size <= 1048576) (hwt : (lastN way).t.size <= 1048576) (hwl : way.length <= 100000) (hkl : n.kids.length <= 100000) (A : Option Addr) (c : Nat) (w : World) (hA : WayAt w way n A c) :
 Calls Tryz.prog 94 #[.slice A (way.length + 1) c] w fun e w' => e = .returned (.bool (angleT way n)) /\ Below w.heap.size w w':=by
 obtain ⟨hlc,hcm,b,o,rfl,hway,hlast⟩:=hA.nth
 obtain ⟨B,cB,q0,q1,q2,q3,hn1⟩:=hlast
 have al:=al_nd w #[.int .i64 n.k,.string n.t,.string n.v,.slice B n.kids.length cB]
 have bX:=Blk.new w 24 #[.int .i64 n.k,.string n.t,.string n.v,.slice B n.kids.length cB]
 obtain ⟨W0,hW0⟩ : ∃ W0,w.alloc (.cells #[.int .i64 n.k,.string n.t,.string n.v,.slice B n.kids.length cB] 24) = W0:=⟨_,rfl⟩
 rw [hW0] at al bX
 have cells : ∀ W,Below W0.heap.size W0 W -> W.cell? ⟨w.heap.size,0,none⟩ = some (.int .i64 n.k) /\ W.cell? ⟨w.heap.size,1,none⟩ = some (.string n.t) /\ W.cell? ⟨w.heap.size,2,none⟩ = some (.string n.v) /\ W.cell? ⟨w.heap.size,3,none⟩ = some (.slice B n.kids.length cB):=fun W h => nbox (bX.below h bX.lt)
 have HC:=Lib.hid cells
 obtain ⟨x0,x1,x2,x3⟩:=cells W0 (Below.refl _ _)
 have HAL:=Lib.hid al
 have hlt1 : way.length < c:=by omega
 obtain ⟨R,hR⟩ : ∃ R,angleT way n = R:=⟨_,rfl⟩
 rw [hR]
 by_cases h0 : way = [] /\ n.k ≠ 10
 case pos =>
  have hR2 : false = R:=by rw [<- hR]; unfold angleT; rw [if_pos h0]
  subst hR2
  have hw0 : way.length = 0:=by rw [h0.1]; rfl
  have z1:=ibeq h0.2
  have z2:=ibne h0.2
  rw [hw0,Nat.zero_mul,Nat.add_zero] at q0 q1 q2 q3
  rw [hw0]
  clear hR HC cells bX h0 hway hA hn1
  generalize n.k = k at *
  go_enter Tryz.func94,Tryz.ntmps94
  go_wp2
  go_ret
  exact ⟨rfl,HAL.out⟩
 case neg =>
  have hL0 : way.length = 0 -> n.k = 10:=fun h => Classical.byContradiction fun hk => h0 ⟨List.eq_nil_of_length_eq_zero h,hk⟩
  by_cases h4 : n.k = 4
  case pos =>
   have hR2 : rawL n.t.data.toList = R:=by rw [<- hR]; unfold angleT; rw [if_neg h0,if_pos h4]
   have hLp : ¬ (way.length : Int) = 0:=by omega
   have hL1:=ibeq hLp
   have hL2 : ((way.length : Int) + 1 == 1) = false:=ibeq (by omega)
   have hL3 : ¬ (way.length : Int) + 1 = 1:=by omega
   have hw:=rraw_any n.t W0 (by omega)
   rw [hR2] at hw
   rw [h4] at q0 x0 hW0
   clear hR HC cells bX h0 hway hA hn1 hL0 hR2
   go_enter Tryz.func94,Tryz.ntmps94
   go_wp2_with fail
   refine hw.mono ?_
   rintro e w1 ⟨rfl,rfl⟩
   go_wp2
   go_ret
   exact ⟨rfl,HAL.out⟩
  case neg =>
  by_cases h11 : n.k = 11
  case pos =>
   have hLp : ¬ (way.length : Int) = 0:=by omega
   have hL1:=ibeq hLp
   have hL2 : ((way.length : Int) + 1 == 1) = false:=ibeq (by omega)
   have hL3 : ¬ (way.length : Int) + 1 = 1:=by omega
   by_cases hT : n.t.data.toList = xmlnsL
   case pos =>
    have hR2 : false = R:=by rw [<- hR]; unfold angleT; rw [if_neg h0,if_neg h4,if_pos h11,decide_eq_true hT]; rfl
    have ht : n.t = ⟨#[120,109,108,110,115]⟩:=by
     generalize n.t = T at *
     obtain ⟨d⟩:=T
     have : d = #[120,109,108,110,115]:=Array.toList_inj.1 hT
     rw [this]
    subst hR2
    rw [h11] at q0 x0 hW0
    rw [ht] at q1 x1 hW0
    clear hR HC cells bX h0 hway hA hn1 hL0 hT ht
    go_enter Tryz.func94,Tryz.ntmps94
    go_wp2
    go_ret
    exact ⟨rfl,HAL.out⟩
   case neg =>
    have hR2 : rawL n.v.data.toList = R:=by rw [<- hR]; unfold angleT; rw [if_neg h0,if_neg h4,if_pos h11,decide_eq_false hT]; rfl
    have z0:=hT
    rw [<- Lib.toList_data] at z0
    have z1 : (n.t.toList == [120,109,108,110,115]) = false:=by rw [beq_eq_false_iff_ne]; exact z0
    have z2 : ¬ n.t.toList = [120,109,108,110,115]:=z0
    have hw:=rraw_any n.v W0 (by omega)
    rw [hR2] at hw
    rw [h11] at q0 x0 hW0
    clear hR HC cells bX h0 hway hA hn1 hL0 hR2 hT z0
    generalize n.t = T at *
    go_enter Tryz.func94,Tryz.ntmps94
    go_wp2_with fail
    refine hw.mono ?_
    rintro e w1 ⟨rfl,rfl⟩
    go_wp2
    go_ret
    exact ⟨rfl,HAL.out⟩
  case neg =>
   obtain ⟨hlc2,hcm2,hkids⟩:=(NAt.def_ _ _ _).1 hn1
   have hcm3 : cB <= 9223372036854775807:=by simpa [maxLen] using hcm2
   have HKD : Hid (∀ j (h : j < n.kids.length),∃ b2 o2,B = some ⟨b2,o2,none⟩ /\ ∀ W,Below W0.heap.size W0 W -> W.cell? ⟨b2,o2 + j * 4,none⟩ = some (.int .i64 (n.kids.getD j dNd).k)):=Lib.hid fun j h => by
    obtain ⟨b2,o2,h1,_,h3⟩:=hkids (by omega)
    refine ⟨b2,o2,h1,fun W hW => ?_⟩
    have h4:=h3 j h
    rw [<- getDn h] at h4
    obtain ⟨_,_,p0,_⟩:=kid_cells h4 (al.trans (hW.mono al.size))
    exact p0
   have HCT : Hid _:=Lib.hid (cnt_take n.kids)
   have HCE : Hid ((n.kids.take n.kids.length) = n.kids):=Lib.hid List.take_length
   have HBI : Hid (∀ W,Below W0.heap.size W0 W -> Calls Tryz.prog 130 #[.agg #[.int .i64 n.k,.string n.t,.string n.v,.slice B n.kids.length cB]] W fun e w' => ∃ A1 c1,e = .returned (.slice A1 (bindR n.kids []).length c1) /\ Below W.heap.size W w'):=Lib.hid fun W hW => by
    have h1 : NAt (fun _ _ => True) W n B cB:=(hn1.below al).below hW
    rw [Nd.eta n] at h1
    exact rbinds_any n.k n.t n.v n.kids hkt hkl _ B cB W h1
   have hBn : (bindR n.kids []).length <= 100000:=by
    have:=bindR_len n.kids []
    simp only [List.length_nil,Nat.zero_add] at this
    omega
   have HSN : Hid (∀ W,Calls Tryz.prog 129 #[.string n.t] W _):=Lib.hid fun W => rspace15_any n.t W (Nat.le_trans hnt (by decide))
   have hcnt : ∀ j,((n.kids.take j).filter fun m => decide (m.k = 11)).length <= 100000:=fun j => Nat.le_trans (List.length_filter_le _ _) (by rw [List.length_take]; omega)
   have HR : Hid (R = (decide ((bindR n.kids []).length + (if spaceOf n.t = (if way = [] then [] else spaceOf (lastN way).t) then 0 else 1) <= 10) && decide ((bindR n.kids []).length + (if spaceOf n.t = (if way = [] then [] else spaceOf (lastN way).t) then 0 else 1) + (n.kids.filter fun m => decide (m.k = 11)).length <= 20))):=Lib.hid (by
    rw [<- hR]
    unfold angleT
    rw [if_neg h0,if_neg h4,if_neg h11])
   have y4:=ibeq h4
   have y11:=ibeq h11
   clear hkids hn1 hR bX cells hA hcm2
   by_cases hw0 : way = []
   case pos =>
    subst hw0
    have h10 : n.k = 10:=hL0 rfl
    rw [if_pos rfl] at HR
    simp only [List.length_nil,Nat.zero_mul,Nat.add_zero,Nat.zero_add] at q0 q1 q2 q3 hlt1 hlc ⊢
    rw [h10] at q0 x0 hW0
    have HBI0:=HBI.out
    rw [h10] at HBI0
    clear HBI
    have HBI:=Lib.hid HBI0
    have HC0:=HC.out
    rw [h10] at HC0
    clear HC
    have HC:=Lib.hid HC0
    clear HBI0 HC0 hway h0 hL0 h10 h4 h11 y4 y11
    generalize (bindR n.kids []).length = Bn at *
    generalize spaceOf n.t = own at *
    by_cases heq : own = ([] : List UInt8)
    case pos =>
     subst heq
     rw [if_pos rfl] at HR
     go_enter Tryz.func94,Tryz.ntmps94
     have hbi:=HBI.out W0 (Below.refl _ _)
     have HB1 : Hid (Below W0.heap.size W0 W0):=Lib.hid (Below.refl _ _)
     go_wp2_with fail
     clear hW0
     refine hbi.mono ?_
     rintro e w2 ⟨A1,c1,rfl,hb2⟩
     have hbz:=HB1.out.trans (hb2.mono HB1.out.size)
     obtain ⟨x0,x1,x2,x3⟩:=HC.out w2 hbz
     have hsn:=HSN.out w2
     have HB2:=Lib.hid hbz
     clear hb2 hbz hbi HBI HSN HB1
     go_wp2_with fail
     refine hsn.mono ?_
     rintro e w3 ⟨rfl,hb3⟩
     have hbz:=HB2.out.trans (hb3.mono HB2.out.size)
     obtain ⟨x0,x1,x2,x3⟩:=HC.out w3 hbz
     have HB3:=Lib.hid hbz
     clear hb3 hbz hsn HB2
     go_wp2
     go_loop [6,7] (fun a i => ∃ j : Nat,j <= n.kids.length /\ i = .int .i64 (j : Int) /\ a = .int .i64 ((((n.kids.take j).filter fun m => decide (m.k = 11)).length : Nat) : Int)) (fun _ i => n.kids.length - (intOf i).toNat)
     case atStart => exact ⟨0,Nat.zero_le _,rfl,rfl⟩
     case round =>
      obtain ⟨j,hj,rfl,rfl⟩:=hrel
      have hcj:=hcnt j
      by_cases hlt : j < n.kids.length
      case pos =>
       have hct:=HCT.out j hlt
       obtain ⟨b2,o2,rfl,hp⟩:=HKD.out j hlt
       have p0:=hp w3 HB3.out
       have hjc : j < cB:=by omega
       clear hp HCT HKD HCE HR hcnt
       generalize (n.kids.getD j dNd).k = kk at *
       obtain ⟨C2,hC2⟩ : ∃ C2,((n.kids.take (j + 1)).filter fun m => decide (m.k = 11)).length = C2:=⟨_,rfl⟩
       rw [hC2] at hct
       have HC2:=Lib.hid hC2
       clear hC2
       generalize ((n.kids.take j).filter fun m => decide (m.k = 11)).length = C1 at *
       have zc : IntKind.wrap .i64 ((C1 : Int) + 1) = (C1 : Int) + 1:=IntWalk.i64_in _ (by omega)
       by_cases hk : kk = 11
       case pos =>
        subst hk
        rw [if_pos rfl] at hct
        subst hct
        go_wp2
        go_round
        case rel => exact ⟨j + 1,hlt,by go_num,by rw [HC2.out] <;> go_num⟩
        case measure => first | (simp [intOf]; done) | (simp [intOf]; omega)
       case neg =>
        rw [if_neg hk,Nat.add_zero] at hct
        subst hct
        have yk:=ibeq hk
        go_wp2
        go_round
        case rel => exact ⟨j + 1,hlt,by go_num,by rw [HC2.out]⟩
        case measure => first | (simp [intOf]; done) | (simp [intOf]; omega)
      case neg =>
       obtain rfl : j = n.kids.length:=by omega
       rw [HCE.out] at hcj ⊢
       have HR2:=Lib.hid HR.out
       clear HCT HKD HCE HR hcnt
       generalize (n.kids.filter fun m => decide (m.k = 11)).length = CN at *
       have HBB:=Lib.hid (HAL.out.trans (HB3.out.mono HAL.out.size))
       have zc : IntKind.wrap .i64 ((Bn : Int) + (CN : Int)) = (Bn : Int) + (CN : Int):=IntWalk.i64_in _ (by omega)
       by_cases hle : Bn <= 10
       case pos =>
        have zz : (Bn : Int) <= 10:=by omega
        have HR3 : Hid (decide ((Bn : Int) + (CN : Int) <= 20) = R):=Lib.hid (by rw [HR2.out,Nat.add_zero,decide_eq_true hle,Bool.true_and]; exact decide_eq_decide.2 (by omega))
        clear HR2
        go_wp2
        go_ret
        exact ⟨by rw [<- HR3.out] <;> rfl,HBB.out⟩
       case neg =>
        have zz : ¬ (Bn : Int) <= 10:=by omega
        have HR3 : Hid (false = R):=Lib.hid (by rw [HR2.out,Nat.add_zero,decide_eq_false hle,Bool.false_and])
        clear HR2
        go_wp2
        go_ret
        exact ⟨by rw [<- HR3.out] <;> rfl,HBB.out⟩
    case neg =>
     rw [if_neg heq] at HR
     obtain ⟨n1,n2⟩:=str_neq heq
     have n3 : (own == ([] : List UInt8)) = false:=by rw [beq_eq_false_iff_ne]; exact heq
     have n4 : ¬ own = ([] : List UInt8):=heq
     have zw : IntKind.wrap .i64 ((Bn : Int) + 1) = (Bn : Int) + 1:=IntWalk.i64_in _ (by omega)
     have t0 : (⟨([] : List UInt8).toArray⟩ : ByteArray).toList = []:=Lib.toList_data _
     rw [t0] at n1 n2
     have n5 : ¬ own.isEmpty = true:=by simpa using heq
     have n6 : own.isEmpty = false:=by simpa using heq
     go_enter Tryz.func94,Tryz.ntmps94
     have hbi:=HBI.out W0 (Below.refl _ _)
     have HB1 : Hid (Below W0.heap.size W0 W0):=Lib.hid (Below.refl _ _)
     go_wp2_with fail
     clear hW0
     refine hbi.mono ?_
     rintro e w2 ⟨A1,c1,rfl,hb2⟩
     have hbz:=HB1.out.trans (hb2.mono HB1.out.size)
     obtain ⟨x0,x1,x2,x3⟩:=HC.out w2 hbz
     have hsn:=HSN.out w2
     have HB2:=Lib.hid hbz
     clear hb2 hbz hbi HBI HSN HB1
     go_wp2_with fail
     refine hsn.mono ?_
     rintro e w3 ⟨rfl,hb3⟩
     have hbz:=HB2.out.trans (hb3.mono HB2.out.size)
     obtain ⟨x0,x1,x2,x3⟩:=HC.out w3 hbz
     have HB3:=Lib.hid hbz
     clear hb3 hbz hsn HB2
     go_wp2
     go_loop [6,7] (fun a i => ∃ j : Nat,j <= n.kids.length /\ i = .int .i64 (j : Int) /\ a = .int .i64 ((((n.kids.take j).filter fun m => decide (m.k = 11)).length : Nat) : Int)) (fun _ i => n.kids.length - (intOf i).toNat)
     case atStart => exact ⟨0,Nat.zero_le _,rfl,rfl⟩
     case round =>
      obtain ⟨j,hj,rfl,rfl⟩:=hrel
      have hcj:=hcnt j
      by_cases hlt : j < n.kids.length
      case pos =>
       have hct:=HCT.out j hlt
       obtain ⟨b2,o2,rfl,hp⟩:=HKD.out j hlt
       have p0:=hp w3 HB3.out
       have hjc : j < cB:=by omega
       clear hp HCT HKD HCE HR hcnt
       generalize (n.kids.getD j dNd).k = kk at *
       obtain ⟨C2,hC2⟩ : ∃ C2,((n.kids.take (j + 1)).filter fun m => decide (m.k = 11)).length = C2:=⟨_,rfl⟩
       rw [hC2] at hct
       have HC2:=Lib.hid hC2
       clear hC2
       generalize ((n.kids.take j).filter fun m => decide (m.k = 11)).length = C1 at *
       have zc : IntKind.wrap .i64 ((C1 : Int) + 1) = (C1 : Int) + 1:=IntWalk.i64_in _ (by omega)
       by_cases hk : kk = 11
       case pos =>
        subst hk
        rw [if_pos rfl] at hct
        subst hct
        go_wp2
        go_round
        case rel => exact ⟨j + 1,hlt,by go_num,by rw [HC2.out] <;> go_num⟩
        case measure => first | (simp [intOf]; done) | (simp [intOf]; omega)
       case neg =>
        rw [if_neg hk,Nat.add_zero] at hct
        subst hct
        have yk:=ibeq hk
        go_wp2
        go_round
        case rel => exact ⟨j + 1,hlt,by go_num,by rw [HC2.out]⟩
        case measure => first | (simp [intOf]; done) | (simp [intOf]; omega)
      case neg =>
       obtain rfl : j = n.kids.length:=by omega
       rw [HCE.out] at hcj ⊢
       have HR2:=Lib.hid HR.out
       clear HCT HKD HCE HR hcnt
       generalize (n.kids.filter fun m => decide (m.k = 11)).length = CN at *
       have HBB:=Lib.hid (HAL.out.trans (HB3.out.mono HAL.out.size))
       have zc : IntKind.wrap .i64 ((Bn : Int) + 1 + (CN : Int)) = (Bn : Int) + 1 + (CN : Int):=IntWalk.i64_in _ (by omega)
       by_cases hle : Bn + 1 <= 10
       case pos =>
        have zz : (Bn : Int) + 1 <= 10:=by omega
        have HR3 : Hid (decide ((Bn : Int) + 1 + (CN : Int) <= 20) = R):=Lib.hid (by rw [HR2.out,decide_eq_true hle,Bool.true_and]; exact decide_eq_decide.2 (by omega))
        clear HR2
        go_wp2
        go_ret
        exact ⟨by rw [<- HR3.out] <;> rfl,HBB.out⟩
       case neg =>
        have zz : ¬ (Bn : Int) + 1 <= 10:=by omega
        have HR3 : Hid (false = R):=Lib.hid (by rw [HR2.out,decide_eq_false hle,Bool.false_and])
        clear HR2
        go_wp2
        go_ret
        exact ⟨by rw [<- HR3.out] <;> rfl,HBB.out⟩
   case neg =>
    obtain ⟨M,hM⟩ : ∃ M,way.length = M + 1:=⟨way.length - 1,by have:=List.length_pos_iff.2 hw0; omega⟩
    rw [if_neg hw0] at HR
    have hup:=hway M (by omega)
    rw [show way.getD M dNd = lastN way by rw [<- lastN_at (by omega),hM,Nat.add_sub_cancel]] at hup
    obtain ⟨_,_,u0,u1,_,_,_⟩:=kid_cells hup al
    have hso:=rspace15_any (lastN way).t W0 (Nat.le_trans hwt (by decide))
    rw [hM] at q0 q1 q2 q3 hlt1 hlc hwl ⊢
    have hL1 : ¬ (M : Int) + 1 + 1 = 1:=by omega
    have hL2:=ibeq hL1
    clear hway h0 hL0 hup hM hw0 h4 h11
    generalize n.k = k at *
    generalize (bindR n.kids []).length = Bn at *
    generalize spaceOf (lastN way).t = ow at *
    generalize spaceOf n.t = own at *
    by_cases heq : own = ow
    case pos =>
     subst heq
     rw [if_pos rfl] at HR
     go_enter Tryz.func94,Tryz.ntmps94
     go_wp2_with fail
     clear hW0
     refine hso.mono ?_
     rintro e w1 ⟨rfl,hb1⟩
     obtain ⟨x0,x1,x2,x3⟩:=HC.out w1 hb1
     have hbi:=HBI.out w1 hb1
     have HB1:=Lib.hid hb1
     clear hb1 hso
     go_wp2_with fail
     refine hbi.mono ?_
     rintro e w2 ⟨A1,c1,rfl,hb2⟩
     have hbz:=HB1.out.trans (hb2.mono HB1.out.size)
     obtain ⟨x0,x1,x2,x3⟩:=HC.out w2 hbz
     have hsn:=HSN.out w2
     have HB2:=Lib.hid hbz
     clear hb2 hbz hbi HBI HSN HB1
     go_wp2_with fail
     refine hsn.mono ?_
     rintro e w3 ⟨rfl,hb3⟩
     have hbz:=HB2.out.trans (hb3.mono HB2.out.size)
     obtain ⟨x0,x1,x2,x3⟩:=HC.out w3 hbz
     have HB3:=Lib.hid hbz
     clear hb3 hbz hsn HB2
     go_wp2
     go_loop [6,7] (fun a i => ∃ j : Nat,j <= n.kids.length /\ i = .int .i64 (j : Int) /\ a = .int .i64 ((((n.kids.take j).filter fun m => decide (m.k = 11)).length : Nat) : Int)) (fun _ i => n.kids.length - (intOf i).toNat)
     case atStart => exact ⟨0,Nat.zero_le _,rfl,rfl⟩
     case round =>
      obtain ⟨j,hj,rfl,rfl⟩:=hrel
      have hcj:=hcnt j
      by_cases hlt : j < n.kids.length
      case pos =>
       have hct:=HCT.out j hlt
       obtain ⟨b2,o2,rfl,hp⟩:=HKD.out j hlt
       have p0:=hp w3 HB3.out
       have hjc : j < cB:=by omega
       clear hp HCT HKD HCE HR hcnt
       generalize (n.kids.getD j dNd).k = kk at *
       obtain ⟨C2,hC2⟩ : ∃ C2,((n.kids.take (j + 1)).filter fun m => decide (m.k = 11)).length = C2:=⟨_,rfl⟩
       rw [hC2] at hct
       have HC2:=Lib.hid hC2
       clear hC2
       generalize ((n.kids.take j).filter fun m => decide (m.k = 11)).length = C1 at *
       have zc : IntKind.wrap .i64 ((C1 : Int) + 1) = (C1 : Int) + 1:=IntWalk.i64_in _ (by omega)
       by_cases hk : kk = 11
       case pos =>
        subst hk
        rw [if_pos rfl] at hct
        subst hct
        go_wp2
        go_round
        case rel => exact ⟨j + 1,hlt,by go_num,by rw [HC2.out] <;> go_num⟩
        case measure => first | (simp [intOf]; done) | (simp [intOf]; omega)
       case neg =>
        rw [if_neg hk,Nat.add_zero] at hct
        subst hct
        have yk:=ibeq hk
        go_wp2
        go_round
        case rel => exact ⟨j + 1,hlt,by go_num,by rw [HC2.out]⟩
        case measure => first | (simp [intOf]; done) | (simp [intOf]; omega)
      case neg =>
       obtain rfl : j = n.kids.length:=by omega
       rw [HCE.out] at hcj ⊢
       have HR2:=Lib.hid HR.out
       clear HCT HKD HCE HR hcnt
       generalize (n.kids.filter fun m => decide (m.k = 11)).length = CN at *
       have HBB:=Lib.hid (HAL.out.trans (HB3.out.mono HAL.out.size))
       have zc : IntKind.wrap .i64 ((Bn : Int) + (CN : Int)) = (Bn : Int) + (CN : Int):=IntWalk.i64_in _ (by omega)
       by_cases hle : Bn <= 10
       case pos =>
        have zz : (Bn : Int) <= 10:=by omega
        have HR3 : Hid (decide ((Bn : Int) + (CN : Int) <= 20) = R):=Lib.hid (by rw [HR2.out,Nat.add_zero,decide_eq_true hle,Bool.true_and]; exact decide_eq_decide.2 (by omega))
        clear HR2
        go_wp2
        go_ret
        exact ⟨by rw [<- HR3.out] <;> rfl,HBB.out⟩
       case neg =>
        have zz : ¬ (Bn : Int) <= 10:=by omega
        have HR3 : Hid (false = R):=Lib.hid (by rw [HR2.out,Nat.add_zero,decide_eq_false hle,Bool.false_and])
        clear HR2
        go_wp2
        go_ret
        exact ⟨by rw [<- HR3.out] <;> rfl,HBB.out⟩
    case neg =>
     rw [if_neg heq] at HR
     obtain ⟨n1,n2⟩:=str_neq heq
     have n3 : (own == ow) = false:=by rw [beq_eq_false_iff_ne]; exact heq
     have n4 : ¬ own = ow:=heq
     have zw : IntKind.wrap .i64 ((Bn : Int) + 1) = (Bn : Int) + 1:=IntWalk.i64_in _ (by omega)
     go_enter Tryz.func94,Tryz.ntmps94
     go_wp2_with fail
     clear hW0
     refine hso.mono ?_
     rintro e w1 ⟨rfl,hb1⟩
     obtain ⟨x0,x1,x2,x3⟩:=HC.out w1 hb1
     have hbi:=HBI.out w1 hb1
     have HB1:=Lib.hid hb1
     clear hb1 hso
     go_wp2_with fail
     refine hbi.mono ?_
     rintro e w2 ⟨A1,c1,rfl,hb2⟩
     have hbz:=HB1.out.trans (hb2.mono HB1.out.size)
     obtain ⟨x0,x1,x2,x3⟩:=HC.out w2 hbz
     have hsn:=HSN.out w2
     have HB2:=Lib.hid hbz
     clear hb2 hbz hbi HBI HSN HB1
     go_wp2_with fail
     refine hsn.mono ?_
     rintro e w3 ⟨rfl,hb3⟩
     have hbz:=HB2.out.trans (hb3.mono HB2.out.size)
     obtain ⟨x0,x1,x2,x3⟩:=HC.out w3 hbz
     have HB3:=Lib.hid hbz
     clear hb3 hbz hsn HB2
     go_wp2
     go_loop [6,7] (fun a i => ∃ j : Nat,j <= n.kids.length /\ i = .int .i64 (j : Int) /\ a = .int .i64 ((((n.kids.take j).filter fun m => decide (m.k = 11)).length : Nat) : Int)) (fun _ i => n.kids.length - (intOf i).toNat)
     case atStart => exact ⟨0,Nat.zero_le _,rfl,rfl⟩
     case round =>
      obtain ⟨j,hj,rfl,rfl⟩:=hrel
      have hcj:=hcnt j
      by_cases hlt : j < n.kids.length
      case pos =>
       have hct:=HCT.out j hlt
       obtain ⟨b2,o2,rfl,hp⟩:=HKD.out j hlt
       have p0:=hp w3 HB3.out
       have hjc : j < cB:=by omega
       clear hp HCT HKD HCE HR hcnt
       generalize (n.kids.getD j dNd).k = kk at *
       obtain ⟨C2,hC2⟩ : ∃ C2,((n.kids.take (j + 1)).filter fun m => decide (m.k = 11)).length = C2:=⟨_,rfl⟩
       rw [hC2] at hct
       have HC2:=Lib.hid hC2
       clear hC2
       generalize ((n.kids.take j).filter fun m => decide (m.k = 11)).length = C1 at *
       have zc : IntKind.wrap .i64 ((C1 : Int) + 1) = (C1 : Int) + 1:=IntWalk.i64_in _ (by omega)
       by_cases hk : kk = 11
       case pos =>
        subst hk
        rw [if_pos rfl] at hct
        subst hct
        go_wp2
        go_round
        case rel => exact ⟨j + 1,hlt,by go_num,by rw [HC2.out] <;> go_num⟩
        case measure => first | (simp [intOf]; done) | (simp [intOf]; omega)
       case neg =>
        rw [if_neg hk,Nat.add_zero] at hct
        subst hct
        have yk:=ibeq hk
        go_wp2
        go_round
        case rel => exact ⟨j + 1,hlt,by go_num,by rw [HC2.out]⟩
        case measure => first | (simp [intOf]; done) | (simp [intOf]; omega)
      case neg =>
       obtain rfl : j = n.kids.length:=by omega
       rw [HCE.out] at hcj ⊢
       have HR2:=Lib.hid HR.out
       clear HCT HKD HCE HR hcnt
       generalize (n.kids.filter fun m => decide (m.k = 11)).length = CN at *
       have HBB:=Lib.hid (HAL.out.trans (HB3.out.mono HAL.out.size))
       have zc : IntKind.wrap .i64 ((Bn : Int) + 1 + (CN : Int)) = (Bn : Int) + 1 + (CN : Int):=IntWalk.i64_in _ (by omega)
       by_cases hle : Bn + 1 <= 10
       case pos =>
        have zz : (Bn : Int) + 1 <= 10:=by omega
        have HR3 : Hid (decide ((Bn : Int) + 1 + (CN : Int) <= 20) = R):=Lib.hid (by rw [HR2.out,decide_eq_true hle,Bool.true_and]; exact decide_eq_decide.2 (by omega))
        clear HR2
        go_wp2
        go_ret
        exact ⟨by rw [<- HR3.out] <;> rfl,HBB.out⟩
       case neg =>
        have zz : ¬ (Bn : Int) + 1 <= 10:=by omega
        have HR3 : Hid (false = R):=Lib.hid (by rw [HR2.out,decide_eq_false hle,Bool.false_and])
        clear HR2
        go_wp2
        go_ret
        exact ⟨by rw [<- HR3.out] <;> rfl,HBB.out⟩
end Go.Proofs.YtbnppjmmlfncmaaGreatDoor
