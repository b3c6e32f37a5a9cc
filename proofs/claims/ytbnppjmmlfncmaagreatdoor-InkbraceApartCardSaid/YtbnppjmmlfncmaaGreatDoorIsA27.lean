/-
  The reference's digits and Form: their contracts.
  The reference's Form: its contract.
-/
import Derived.Test.YtbnppjmmlfncmaaGreatDoorIsA14
import Derived.Test.YtbnppjmmlfncmaaGreatDoorIsA26
import Derived.Test.YtbnppjmmlfncmaaGreatDoorIsA05
import Derived.Stop.LaidErr
set_option maxRecDepth 100000
namespace Go.Proofs.YtbnppjmmlfncmaaGreatDoor.Nm
open Go.RowKit
theorem size_of (l : List UInt8) : (⟨l.toArray⟩ : ByteArray).size = l.length:=by simp [ByteArray.size]
def strSize : Value -> Nat | .string s => s.size | _ => 0
def preD (u : Nat) (l : List UInt8) : List UInt8:=if u = 0 /\ l ≠ [] then l else Lib.decDigits u ++ l
theorem preD_step (u : Nat) (l : List UInt8) (h : 0 < u \/ l = []) : preD u l = preD (u / 10) (UInt8.ofNat (48 + u % 10) :: l):=by
 unfold preD
 rw [if_neg (by rintro ⟨h1,h2⟩; rcases h with h | h; omega; exact h2 h)]
 by_cases hu : u < 10
 ·rw [if_pos ⟨by omega,by simp⟩,Lib.decDigits,dif_pos hu,Nat.mod_eq_of_lt hu]
  rfl
 ·rw [if_neg (by rintro ⟨h1,_⟩; omega),Lib.decDigits,dif_neg hu]
  simp
theorem one_app (a : UInt8) (l : List UInt8) : (⟨#[a]⟩ ++ ⟨l.toArray⟩ : ByteArray) = ⟨(a :: l).toArray⟩:=by
 apply ByteArray.ext
 simp [ByteArray.data_append]
theorem ofNat_48 (k : Nat) : 48 + UInt8.ofNat k = UInt8.ofNat (48 + k):=by
 rw [UInt8.ofNat_add]
 rfl
theorem app_48 (k : Nat) (l : List UInt8) : (⟨#[48 + UInt8.ofNat k]⟩ ++ ⟨l.toArray⟩ : ByteArray) = ⟨(UInt8.ofNat (48 + k) :: l).toArray⟩:=by
 rw [ofNat_48,one_app]
set_option maxHeartbeats 1000000 in
theorem rdigits_any (N : Nat) (i : Int) (hi : i = (N : Int)) (w : World) (hN : N <= 4611686018427387904) :
 Calls Tryz.prog 180 #[.int .i64 i] w fun e w' => e = .returned (.string ⟨(Lib.decDigits N).toArray⟩) /\ Below w.heap.size w w':=by
 subst hi
 go_enter Tryz.func180,Tryz.ntmps180
 go_wp2
 go_loopw [0,3] (fun n o wr => ∃ (u : Nat) (l : List UInt8),n = .int .i64 u /\ o = .string ⟨l.toArray⟩ /\ u <= N /\ l.length + u <= N + 1 /\ Below w.heap.size w wr /\ Hid (Lib.decDigits N = preD u l)) (fun n o _ => 2 * (intOf n).toNat + (1 - strSize o))
 case atStart => exact ⟨N,[],rfl,rfl,Nat.le_refl _,by simp,Below.refl _ _,Lib.hid (by unfold preD; simp)⟩
 case round =>
  obtain ⟨u,l,rfl,rfl,hu,hlu,hb,HP⟩:=hrel
  have hlen:=size_of l
  have hl1 : l.length <= N + 1:=by omega
  have hsz : (⟨l.toArray⟩ : ByteArray).size <= N + 1:=by omega
  by_cases hc : 0 < u \/ l = []
  ·have hst:=preD_step u l hc
   have HS:=Lib.hid hst
   have hd0 : 0 <= (u : Int) % 10:=by omega
   have hd1 : (u : Int) % 10 < 10:=by omega
   have hrow : ORow (wr.alloc (.cells #[.int .u8 (48 + (u : Int) % 10)] 5)) wr.heap.size 5 (.slice (some ⟨wr.heap.size,0,none⟩) 1 1) ([UInt8.ofNat (48 + u % 10)].map bV):=by
    have e : ([UInt8.ofNat (48 + u % 10)].map bV) = [.int .u8 (48 + (u : Int) % 10)]:=by
     simp only [List.map_cons,List.map_nil,bV]
     rw [digit_ofNat (u % 10) (by omega)]
     push_cast
     rfl
    rw [e]
    exact ORow.lit wr _ _ _ (Nat.le_refl _) (by simp [maxLen])
   have hstr:=put_str _ hrow
   have hbs:=hb.size
   clear hst hrow
   by_cases hu0 : 0 < u
   ·have hc2 : 0 < (u : Int):=by omega
    have hnil : ¬ ((⟨l.toArray⟩ : ByteArray).size < 0):=by omega
    clear hc
    go_wp2
    refine ⟨⟨u / 10,UInt8.ofNat (48 + u % 10) :: l,by go_num,by rw [app_48],by omega,by simp; omega,hb.alloc hbs _,Lib.hid (HP.out.trans HS.out)⟩,?_⟩
    simp [intOf,strSize] <;> omega
   ·have hl : l = []:=by
     rcases hc with hc | hc
     ·exact absurd hc hu0
     ·exact hc
    subst hl
    have hz : u = 0:=by omega
    have hrow0 : ORow (wr.alloc (.cells #[.int .u8 48] 5)) wr.heap.size 5 (.slice (some ⟨wr.heap.size,0,none⟩) 1 1) ([48].map bV):=ORow.lit wr _ _ #[.int .u8 48] (Nat.le_refl _) (by simp [maxLen])
    clear hstr
    have hstr:=put_str _ hrow0
    subst hz
    clear hc hrow0
    go_wp2
    refine ⟨⟨0,[48],by go_num,rfl,by omega,by simp,hb.alloc hbs _,Lib.hid (HP.out.trans HS.out)⟩,?_⟩
    decide
  ·have hu0 : u = 0:=by omega
   have hl0 : l ≠ []:=fun h => hc (.inr h)
   subst hu0
   have hfin : Lib.decDigits N = l:=by rw [HP.out]; unfold preD; rw [if_pos ⟨rfl,hl0⟩]
   have HF:=Lib.hid hfin
   have hn1 : (⟨l.toArray⟩ : ByteArray).toList.isEmpty = false:=by rw [Lib.toList_data]; cases l with
    | nil => exact absurd rfl hl0
    | cons a l => rfl
   have hn2 : ((⟨l.toArray⟩ : ByteArray).toList == []) = false:=by rw [Lib.toList_data]; cases l with
    | nil => exact absurd rfl hl0
    | cons a l => rfl
   have hn3 : l.isEmpty = false:=by cases l with
    | nil => exact absurd rfl hl0
    | cons a l => rfl
   have hn4 : (l == []) = false:=by cases l with
    | nil => exact absurd rfl hl0
    | cons a l => rfl
   clear hc hfin
   go_wp2
   go_ret
   exact ⟨ret_str HF.out.symm,hb⟩
def dI (b : UInt8) : Int:=(b.toNat : Int) - 48
def dIs (l : List UInt8) : List Int:=l.map dI
theorem dig_dec (b : UInt8) (h : dig b = true) : Lib.decDigits (b.toNat - 48) = [b]:=by
 have:=dig_range h
 rw [Lib.decDigits,dif_pos (by omega)]
 congr 1
 apply UInt8.toNat_inj.1
 rw [digit_ofNat _ (by omega)]
 omega
theorem app_list (a b : List UInt8) : (⟨a.toArray⟩ ++ ⟨b.toArray⟩ : ByteArray) = ⟨(a ++ b).toArray⟩:=by
 apply ByteArray.ext
 simp [ByteArray.data_append]
theorem iread_d {w : World} {slv : Value} {D : List UInt8} (h : IRead w slv (dIs D)) : ∃ A cp,slv = .slice A D.length cp /\ (0 < D.length -> ∃ ad : Addr,A = some ad /\ ∀ j (hj : j < D.length),w.cell? (ad.add j) = some (.int .i64 (dI D[j]))):=by
 obtain ⟨A,cp,hv,hA⟩:=h
 have hl : (dIs D).length = D.length:=by unfold dIs; simp
 refine ⟨A,cp,by rw [hv,hl],fun hp => ?_⟩
 obtain ⟨ad,h1,h2⟩:=hA (by omega)
 refine ⟨ad,h1,fun j hj => ?_⟩
 rw [h2 j (by omega)]
 simp [dIs]
set_option maxHeartbeats 1000000 in
theorem rform_any (v : Val) (slv : Value) (w : World) (hp : -2147483648 <= v.pow /\ v.pow <= 2147483648) (hd : v.digs.length <= 1000) (hdig : v.digs.all dig = true) (hr : IRead w slv (dIs v.digs)) :
 Calls Tryz.prog 173 #[.agg #[.bool v.neg,slv,.int .i64 v.pow]] w fun e w' => e = .returned (.string ⟨(formL v).toArray⟩) /\ Below w.heap.size w w':=by
 obtain ⟨n,D,p⟩:=v
 simp only at hp hd hdig hr ⊢
 obtain ⟨p1,p2⟩:=hp
 obtain ⟨A,cp,rfl,hA⟩:=iread_d hr
 by_cases h0 : D = []
 ·subst h0
  go_enter Tryz.func173,Tryz.ntmps173
  go_wp2
  go_ret
  exact ⟨rfl,(Below.refl _ _).alloc (Nat.le_refl _) _⟩
 ·have hF : formL ⟨n,D,p⟩ = (if n then [45] else []) ++ D ++ tailI p:=by unfold formL; rw [if_neg h0]
  have hpos : 0 < D.length:=List.length_pos_iff.2 h0
  obtain ⟨ad,rfl,hcell⟩:=hA hpos
  have HF:=Lib.hid hF
  have HC:=Lib.hid hcell
  have HB:=Blk.new w 180 #[.bool n,.slice (some ad) D.length cp,.int .i64 p]
  have hzb : ((D.length : Int) == 0) = false:=by rw [beq_eq_false_iff_ne]; omega
  have hdl : (D.length : Int) <= 1000:=by omega
  clear h0 hF hcell hA
  obtain ⟨sg,hsg,hsl⟩ : ∃ sg : List UInt8,(if n then [45] else []) = sg /\ sg.length <= 1:=⟨_,rfl,by cases n <;> simp⟩
  cases n
  case false =>
   have HSG:=Lib.hid hsg
   have HSL:=Lib.hid hsl
   clear hsg hsl
   go_enter Tryz.func173,Tryz.ntmps173
   go_wp2
   go_loopw [3,4] (fun o i wr => ∃ k : Nat,k <= D.length /\ i = .int .i64 k /\ o = .string ⟨(sg ++ D.take k).toArray⟩ /\ Hid (Below (w.heap.size + 1) (w.alloc (.cells #[.bool false,.slice (some ad) D.length cp,.int .i64 p] 180)) wr)) (fun _ i _ => D.length - (intOf i).toNat)
   case atStart => exact ⟨0,Nat.zero_le _,rfl,by rw [<- HSG.out]; rfl,Lib.hid (Below.refl _ _)⟩
   case round =>
    obtain ⟨k,hk,rfl,rfl,HBL⟩:=hrel
    have HBr:=HB.below HBL.out (by simp)
    have c0 : wr.cell? ⟨w.heap.size,0,none⟩ = some (.bool false):=HBr.cell 0
    have c1 : wr.cell? ⟨w.heap.size,1,none⟩ = some (.slice (some ad) D.length cp):=HBr.cell 1
    have c2 : wr.cell? ⟨w.heap.size,2,none⟩ = some (.int .i64 p):=HBr.cell 2
    have hsr:=HBL.out.size
    simp at hsr
    have hbw : Below w.heap.size w wr:=((Below.refl w.heap.size w).alloc (Nat.le_refl _) _).trans (HBL.out.mono (by simp))
    have HBW:=Lib.hid hbw
    have hol : (⟨(sg ++ D.take k).toArray⟩ : ByteArray).size <= 1001:=by
     have:=HSL.out
     rw [size_of,List.length_append,List.length_take]; omega
    clear hbw
    by_cases hlt : k < D.length
    ·have hck : wr.cell? (ad.add k) = some (.int .i64 (dI D[k])):=by
      have h1:=HC.out k hlt
      have h2:=cell?_alloc_old (.cells #[.bool false,.slice (some ad) D.length cp,.int .i64 p] 180) h1
      have h3:=cell_lt h1
      exact (HBL.out.cell (p:=ad.add k) (by omega)).trans h2
     have hdk:=List.all_eq_true.1 hdig D[k] (List.getElem_mem hlt)
     have hrg:=dig_range hdk
     have hdd:=dig_dec D[k] hdk
     have HDD:=Lib.hid hdd
     have hdi : dI D[k] = ((D[k].toNat - 48 : Nat) : Int):=by unfold dI; omega
     have HDI:=Lib.hid hdi
     have htk : sg ++ D.take (k + 1) = sg ++ D.take k ++ [D[k]]:=by
      rw [List.take_succ_eq_append_getElem hlt,List.append_assoc]
     have HTK:=Lib.hid htk
     have hki : (k : Int) < D.length:=by omega
     have hka : (⟨[D[k]].toArray⟩ : ByteArray).size <= 1:=by rw [size_of]; simp
     clear hdk hrg hdd hdi htk
     go_wp2_with (fail)
     refine (rdigits_any _ _ HDI.out _ (by have:=D[k].toNat_lt; omega)).mono ?_
     rintro e w2 ⟨rfl,hb2⟩
     rw [HDD.out]
     go_wp2
     go_roundw
     case rel =>
      refine ⟨k + 1,by omega,by go_num,?_,Lib.hid (HBL.out.trans (hb2.mono (by omega)))⟩
      rw [HTK.out,app_list]
     case measure => simp [intOf]; omega
    ·have hdt : D.take k = D:=List.take_of_length_le (by omega)
     rw [hdt] at hol ⊢
     have hki : (D.length : Int) <= k:=by omega
     have hsgl:=HSL.out
     clear hdt
     rcases Int.lt_trichotomy p 0 with hp0 | hp0 | hp0
     ·have hT : formL ⟨false,D,p⟩ = sg ++ D ++ [101,45] ++ Lib.decDigits p.natAbs:=by
       rw [HF.out,HSG.out]
       unfold tailI Lib.itoa
       rw [if_neg (by omega),if_pos hp0]
       simp
      have HT:=Lib.hid hT
      have hnp : -p = ((p.natAbs : Nat) : Int):=by omega
      have HNP:=Lib.hid hnp
      have hpn : ¬ 0 < p:=by omega
      clear hT hnp
      go_wp2_with (fail)
      refine (rdigits_any p.natAbs _ HNP.out _ (by omega)).mono ?_
      rintro e w2 ⟨rfl,hb2⟩
      have hdl2 : (Lib.decDigits p.natAbs).length <= 100:=by
       have:=itoa_len p ⟨by omega,by omega⟩
       unfold Lib.itoa at this
       rw [if_pos hp0] at this
       simp at this
       omega
      go_wp2
      go_ret
      refine ⟨?_,HBW.out.trans (hb2.mono HBW.out.size)⟩
      rw [HT.out]
      simp only [<- app_list]
      rfl
     ·have hT : formL ⟨false,D,p⟩ = sg ++ D:=by
       rw [HF.out,HSG.out]
       unfold tailI
       rw [if_pos hp0]
       simp
      have HT:=Lib.hid hT
      have hpn : ¬ 0 < p:=by omega
      have hpm : ¬ p < 0:=by omega
      clear hT hp0
      go_wp2
      go_ret
      exact ⟨ret_str HT.out.symm,HBW.out⟩
     ·have hT : formL ⟨false,D,p⟩ = sg ++ D ++ [101] ++ Lib.decDigits p.toNat:=by
       rw [HF.out,HSG.out]
       unfold tailI Lib.itoa
       rw [if_neg (by omega),if_neg (by omega)]
       simp
      have HT:=Lib.hid hT
      have hnp : p = ((p.toNat : Nat) : Int):=by omega
      have HNP:=Lib.hid hnp
      have hpm : ¬ p < 0:=by omega
      have hdl2 : (Lib.decDigits p.toNat).length <= 100:=by
       have:=itoa_len p ⟨by omega,by omega⟩
       unfold Lib.itoa at this
       rw [if_neg (by omega)] at this
       omega
      clear hT hnp
      go_wp2_with (fail)
      refine (rdigits_any p.toNat _ HNP.out _ (by omega)).mono ?_
      rintro e w2 ⟨rfl,hb2⟩
      have HBR2:=HBr.below hb2 (by omega)
      have e2 : w2.cell? ⟨w.heap.size,2,none⟩ = some (.int .i64 p):=HBR2.cell 2
      go_wp2
      go_ret
      refine ⟨?_,HBW.out.trans (hb2.mono HBW.out.size)⟩
      rw [HT.out]
      simp only [<- app_list]
      rfl
  case true =>
   have HSG:=Lib.hid hsg
   have HSL:=Lib.hid hsl
   clear hsg hsl
   go_enter Tryz.func173,Tryz.ntmps173
   go_wp2
   go_loopw [3,4] (fun o i wr => ∃ k : Nat,k <= D.length /\ i = .int .i64 k /\ o = .string ⟨(sg ++ D.take k).toArray⟩ /\ Hid (Below (w.heap.size + 1) (w.alloc (.cells #[.bool true,.slice (some ad) D.length cp,.int .i64 p] 180)) wr)) (fun _ i _ => D.length - (intOf i).toNat)
   case atStart => exact ⟨0,Nat.zero_le _,rfl,by rw [<- HSG.out]; rfl,Lib.hid (Below.refl _ _)⟩
   case round =>
    obtain ⟨k,hk,rfl,rfl,HBL⟩:=hrel
    have HBr:=HB.below HBL.out (by simp)
    have c0 : wr.cell? ⟨w.heap.size,0,none⟩ = some (.bool true):=HBr.cell 0
    have c1 : wr.cell? ⟨w.heap.size,1,none⟩ = some (.slice (some ad) D.length cp):=HBr.cell 1
    have c2 : wr.cell? ⟨w.heap.size,2,none⟩ = some (.int .i64 p):=HBr.cell 2
    have hsr:=HBL.out.size
    simp at hsr
    have hbw : Below w.heap.size w wr:=((Below.refl w.heap.size w).alloc (Nat.le_refl _) _).trans (HBL.out.mono (by simp))
    have HBW:=Lib.hid hbw
    have hol : (⟨(sg ++ D.take k).toArray⟩ : ByteArray).size <= 1001:=by
     have:=HSL.out
     rw [size_of,List.length_append,List.length_take]; omega
    clear hbw
    by_cases hlt : k < D.length
    ·have hck : wr.cell? (ad.add k) = some (.int .i64 (dI D[k])):=by
      have h1:=HC.out k hlt
      have h2:=cell?_alloc_old (.cells #[.bool true,.slice (some ad) D.length cp,.int .i64 p] 180) h1
      have h3:=cell_lt h1
      exact (HBL.out.cell (p:=ad.add k) (by omega)).trans h2
     have hdk:=List.all_eq_true.1 hdig D[k] (List.getElem_mem hlt)
     have hrg:=dig_range hdk
     have hdd:=dig_dec D[k] hdk
     have HDD:=Lib.hid hdd
     have hdi : dI D[k] = ((D[k].toNat - 48 : Nat) : Int):=by unfold dI; omega
     have HDI:=Lib.hid hdi
     have htk : sg ++ D.take (k + 1) = sg ++ D.take k ++ [D[k]]:=by
      rw [List.take_succ_eq_append_getElem hlt,List.append_assoc]
     have HTK:=Lib.hid htk
     have hki : (k : Int) < D.length:=by omega
     have hka : (⟨[D[k]].toArray⟩ : ByteArray).size <= 1:=by rw [size_of]; simp
     clear hdk hrg hdd hdi htk
     go_wp2_with (fail)
     refine (rdigits_any _ _ HDI.out _ (by have:=D[k].toNat_lt; omega)).mono ?_
     rintro e w2 ⟨rfl,hb2⟩
     rw [HDD.out]
     go_wp2
     go_roundw
     case rel =>
      refine ⟨k + 1,by omega,by go_num,?_,Lib.hid (HBL.out.trans (hb2.mono (by omega)))⟩
      rw [HTK.out,app_list]
     case measure => simp [intOf]; omega
    ·have hdt : D.take k = D:=List.take_of_length_le (by omega)
     rw [hdt] at hol ⊢
     have hki : (D.length : Int) <= k:=by omega
     have hsgl:=HSL.out
     clear hdt
     rcases Int.lt_trichotomy p 0 with hp0 | hp0 | hp0
     ·have hT : formL ⟨true,D,p⟩ = sg ++ D ++ [101,45] ++ Lib.decDigits p.natAbs:=by
       rw [HF.out,HSG.out]
       unfold tailI Lib.itoa
       rw [if_neg (by omega),if_pos hp0]
       simp
      have HT:=Lib.hid hT
      have hnp : -p = ((p.natAbs : Nat) : Int):=by omega
      have HNP:=Lib.hid hnp
      have hpn : ¬ 0 < p:=by omega
      clear hT hnp
      go_wp2_with (fail)
      refine (rdigits_any p.natAbs _ HNP.out _ (by omega)).mono ?_
      rintro e w2 ⟨rfl,hb2⟩
      have hdl2 : (Lib.decDigits p.natAbs).length <= 100:=by
       have:=itoa_len p ⟨by omega,by omega⟩
       unfold Lib.itoa at this
       rw [if_pos hp0] at this
       simp at this
       omega
      go_wp2
      go_ret
      refine ⟨?_,HBW.out.trans (hb2.mono HBW.out.size)⟩
      rw [HT.out]
      simp only [<- app_list]
      rfl
     ·have hT : formL ⟨true,D,p⟩ = sg ++ D:=by
       rw [HF.out,HSG.out]
       unfold tailI
       rw [if_pos hp0]
       simp
      have HT:=Lib.hid hT
      have hpn : ¬ 0 < p:=by omega
      have hpm : ¬ p < 0:=by omega
      clear hT hp0
      go_wp2
      go_ret
      exact ⟨ret_str HT.out.symm,HBW.out⟩
     ·have hT : formL ⟨true,D,p⟩ = sg ++ D ++ [101] ++ Lib.decDigits p.toNat:=by
       rw [HF.out,HSG.out]
       unfold tailI Lib.itoa
       rw [if_neg (by omega),if_neg (by omega)]
       simp
      have HT:=Lib.hid hT
      have hnp : p = ((p.toNat : Nat) : Int):=by omega
      have HNP:=Lib.hid hnp
      have hpm : ¬ p < 0:=by omega
      have hdl2 : (Lib.decDigits p.toNat).length <= 100:=by
       have:=itoa_len p ⟨by omega,by omega⟩
       unfold Lib.itoa at this
       rw [if_neg (by omega)] at this
       omega
      clear hT hnp
      go_wp2_with (fail)
      refine (rdigits_any p.toNat _ HNP.out _ (by omega)).mono ?_
      rintro e w2 ⟨rfl,hb2⟩
      have HBR2:=HBr.below hb2 (by omega)
      have e2 : w2.cell? ⟨w.heap.size,2,none⟩ = some (.int .i64 p):=HBR2.cell 2
      go_wp2
      go_ret
      refine ⟨?_,HBW.out.trans (hb2.mono HBW.out.size)⟩
      rw [HT.out]
      simp only [<- app_list]
      rfl
end Go.Proofs.YtbnppjmmlfncmaaGreatDoor.Nm
