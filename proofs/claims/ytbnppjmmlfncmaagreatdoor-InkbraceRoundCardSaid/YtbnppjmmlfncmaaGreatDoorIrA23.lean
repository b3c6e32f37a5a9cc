/-
  The reference's Form: its contract.
-/
import Derived.Test.YtbnppjmmlfncmaaGreatDoorIrA22
import Derived.Test.YtbnppjmmlfncmaaGreatDoorIrA04
import Derived.Stop.LaidErr
set_option maxRecDepth 100000
namespace Go.Proofs.YtbnppjmmlfncmaaGreatDoor.Nm
open Go.RowKit
def dI (b : UInt8) : Int:=(b.toNat : Int) - 48
def dIs (l : List UInt8) : List Int:=l.map dI
theorem dig_dec (b : UInt8) (h : dig b = true) : Lib.decDigits (b.toNat - 48) = [b]:=by
 have:=dig_range h
 rw [Lib.decDigits,dif_pos (by omega)]
 congr 1
 apply UInt8.toNat_inj.1
 rw [digit_ofNat _ (by omega)]
 omega
theorem app_list (a b : List UInt8) : (⟨a.toArray⟩ ++ ⟨b.toArray⟩ : ByteArray) = ⟨(a ++ b).toArray⟩:=by
 apply ByteArray.ext
 simp [ByteArray.data_append]
theorem iread_d {w : World} {slv : Value} {D : List UInt8} (h : IRead w slv (dIs D)) : ∃ A cp,slv = .slice A D.length cp /\ (0 < D.length -> ∃ ad : Addr,A = some ad /\ ∀ j (hj : j < D.length),w.cell? (ad.add j) = some (.int .i64 (dI D[j]))):=by
 obtain ⟨A,cp,hv,hA⟩:=h
 have hl : (dIs D).length = D.length:=by unfold dIs; simp
 refine ⟨A,cp,by rw [hv,hl],fun hp => ?_⟩
 obtain ⟨ad,h1,h2⟩:=hA (by omega)
 refine ⟨ad,h1,fun j hj => ?_⟩
 rw [h2 j (by omega)]
 simp [dIs]
set_option maxHeartbeats 1000000 in
theorem rform_any (v : Val) (slv : Value) (w : World) (hp : -2147483648 <= v.pow /\ v.pow <= 2147483648) (hd : v.digs.length <= 1000) (hdig : v.digs.all dig = true) (hr : IRead w slv (dIs v.digs)) :
 Calls Tryz.prog 173 #[.agg #[.bool v.neg,slv,.int .i64 v.pow]] w fun e w' => e = .returned (.string ⟨(formL v).toArray⟩) /\ Below w.heap.size w w':=by
 obtain ⟨n,D,p⟩:=v
 simp only at hp hd hdig hr ⊢
 obtain ⟨p1,p2⟩:=hp
 obtain ⟨A,cp,rfl,hA⟩:=iread_d hr
 by_cases h0 : D = []
 ·subst h0
  go_enter Tryz.func173,Tryz.ntmps173
  go_wp2
  go_ret
  exact ⟨rfl,(Below.refl _ _).alloc (Nat.le_refl _) _⟩
 ·have hF : formL ⟨n,D,p⟩ = (if n then [45] else []) ++ D ++ tailI p:=by unfold formL; rw [if_neg h0]
  have hpos : 0 < D.length:=List.length_pos_iff.2 h0
  obtain ⟨ad,rfl,hcell⟩:=hA hpos
  have HF:=Lib.hid hF
  have HC:=Lib.hid hcell
  have HB:=Blk.new w 180 #[.bool n,.slice (some ad) D.length cp,.int .i64 p]
  have hzb : ((D.length : Int) == 0) = false:=by rw [beq_eq_false_iff_ne]; omega
  have hdl : (D.length : Int) <= 1000:=by omega
  clear h0 hF hcell hA
  obtain ⟨sg,hsg,hsl⟩ : ∃ sg : List UInt8,(if n then [45] else []) = sg /\ sg.length <= 1:=⟨_,rfl,by cases n <;> simp⟩
  cases n
  case false =>
   have HSG:=Lib.hid hsg
   have HSL:=Lib.hid hsl
   clear hsg hsl
   go_enter Tryz.func173,Tryz.ntmps173
   go_wp2
   go_loopw [3,4] (fun o i wr => ∃ k : Nat,k <= D.length /\ i = .int .i64 k /\ o = .string ⟨(sg ++ D.take k).toArray⟩ /\ Hid (Below (w.heap.size + 1) (w.alloc (.cells #[.bool false,.slice (some ad) D.length cp,.int .i64 p] 180)) wr)) (fun _ i _ => D.length - (intOf i).toNat)
   case atStart => exact ⟨0,Nat.zero_le _,rfl,by rw [<- HSG.out]; rfl,Lib.hid (Below.refl _ _)⟩
   case round =>
    obtain ⟨k,hk,rfl,rfl,HBL⟩:=hrel
    have HBr:=HB.below HBL.out (by simp)
    have c0 : wr.cell? ⟨w.heap.size,0,none⟩ = some (.bool false):=HBr.cell 0
    have c1 : wr.cell? ⟨w.heap.size,1,none⟩ = some (.slice (some ad) D.length cp):=HBr.cell 1
    have c2 : wr.cell? ⟨w.heap.size,2,none⟩ = some (.int .i64 p):=HBr.cell 2
    have hsr:=HBL.out.size
    simp at hsr
    have hbw : Below w.heap.size w wr:=((Below.refl w.heap.size w).alloc (Nat.le_refl _) _).trans (HBL.out.mono (by simp))
    have HBW:=Lib.hid hbw
    have hol : (⟨(sg ++ D.take k).toArray⟩ : ByteArray).size <= 1001:=by
     have:=HSL.out
     rw [size_of,List.length_append,List.length_take]; omega
    clear hbw
    by_cases hlt : k < D.length
    ·have hck : wr.cell? (ad.add k) = some (.int .i64 (dI D[k])):=by
      have h1:=HC.out k hlt
      have h2:=cell?_alloc_old (.cells #[.bool false,.slice (some ad) D.length cp,.int .i64 p] 180) h1
      have h3:=cell_lt h1
      exact (HBL.out.cell (p:=ad.add k) (by omega)).trans h2
     have hdk:=List.all_eq_true.1 hdig D[k] (List.getElem_mem hlt)
     have hrg:=dig_range hdk
     have hdd:=dig_dec D[k] hdk
     have HDD:=Lib.hid hdd
     have hdi : dI D[k] = ((D[k].toNat - 48 : Nat) : Int):=by unfold dI; omega
     have HDI:=Lib.hid hdi
     have htk : sg ++ D.take (k + 1) = sg ++ D.take k ++ [D[k]]:=by
      rw [List.take_succ_eq_append_getElem hlt,List.append_assoc]
     have HTK:=Lib.hid htk
     have hki : (k : Int) < D.length:=by omega
     have hka : (⟨[D[k]].toArray⟩ : ByteArray).size <= 1:=by rw [size_of]; simp
     clear hdk hrg hdd hdi htk
     go_wp2_with (fail)
     refine (rdigits_any _ _ HDI.out _ (by have:=D[k].toNat_lt; omega)).mono ?_
     rintro e w2 ⟨rfl,hb2⟩
     rw [HDD.out]
     go_wp2
     go_roundw
     case rel =>
      refine ⟨k + 1,by omega,by go_num,?_,Lib.hid (HBL.out.trans (hb2.mono (by omega)))⟩
      rw [HTK.out,app_list]
     case measure => simp [intOf]; omega
    ·have hdt : D.take k = D:=List.take_of_length_le (by omega)
     rw [hdt] at hol ⊢
     have hki : (D.length : Int) <= k:=by omega
     have hsgl:=HSL.out
     clear hdt
     rcases Int.lt_trichotomy p 0 with hp0 | hp0 | hp0
     ·have hT : formL ⟨false,D,p⟩ = sg ++ D ++ [101,45] ++ Lib.decDigits p.natAbs:=by
       rw [HF.out,HSG.out]
       unfold tailI Lib.itoa
       rw [if_neg (by omega),if_pos hp0]
       simp
      have HT:=Lib.hid hT
      have hnp : -p = ((p.natAbs : Nat) : Int):=by omega
      have HNP:=Lib.hid hnp
      have hpn : ¬ 0 < p:=by omega
      clear hT hnp
      go_wp2_with (fail)
      refine (rdigits_any p.natAbs _ HNP.out _ (by omega)).mono ?_
      rintro e w2 ⟨rfl,hb2⟩
      have hdl2 : (Lib.decDigits p.natAbs).length <= 100:=by
       have:=itoa_len p ⟨by omega,by omega⟩
       unfold Lib.itoa at this
       rw [if_pos hp0] at this
       simp at this
       omega
      go_wp2
      go_ret
      refine ⟨?_,HBW.out.trans (hb2.mono HBW.out.size)⟩
      rw [HT.out]
      simp only [<- app_list]
      rfl
     ·have hT : formL ⟨false,D,p⟩ = sg ++ D:=by
       rw [HF.out,HSG.out]
       unfold tailI
       rw [if_pos hp0]
       simp
      have HT:=Lib.hid hT
      have hpn : ¬ 0 < p:=by omega
      have hpm : ¬ p < 0:=by omega
      clear hT hp0
      go_wp2
      go_ret
      exact ⟨ret_str HT.out.symm,HBW.out⟩
     ·have hT : formL ⟨false,D,p⟩ = sg ++ D ++ [101] ++ Lib.decDigits p.toNat:=by
       rw [HF.out,HSG.out]
       unfold tailI Lib.itoa
       rw [if_neg (by omega),if_neg (by omega)]
       simp
      have HT:=Lib.hid hT
      have hnp : p = ((p.toNat : Nat) : Int):=by omega
      have HNP:=Lib.hid hnp
      have hpm : ¬ p < 0:=by omega
      have hdl2 : (Lib.decDigits p.toNat).length <= 100:=by
       have:=itoa_len p ⟨by omega,by omega⟩
       unfold Lib.itoa at this
       rw [if_neg (by omega)] at this
       omega
      clear hT hnp
      go_wp2_with (fail)
      refine (rdigits_any p.toNat _ HNP.out _ (by omega)).mono ?_
      rintro e w2 ⟨rfl,hb2⟩
      have HBR2:=HBr.below hb2 (by omega)
      have e2 : w2.cell? ⟨w.heap.size,2,none⟩ = some (.int .i64 p):=HBR2.cell 2
      go_wp2
      go_ret
      refine ⟨?_,HBW.out.trans (hb2.mono HBW.out.size)⟩
      rw [HT.out]
      simp only [<- app_list]
      rfl
  case true =>
   have HSG:=Lib.hid hsg
   have HSL:=Lib.hid hsl
   clear hsg hsl
   go_enter Tryz.func173,Tryz.ntmps173
   go_wp2
   go_loopw [3,4] (fun o i wr => ∃ k : Nat,k <= D.length /\ i = .int .i64 k /\ o = .string ⟨(sg ++ D.take k).toArray⟩ /\ Hid (Below (w.heap.size + 1) (w.alloc (.cells #[.bool true,.slice (some ad) D.length cp,.int .i64 p] 180)) wr)) (fun _ i _ => D.length - (intOf i).toNat)
   case atStart => exact ⟨0,Nat.zero_le _,rfl,by rw [<- HSG.out]; rfl,Lib.hid (Below.refl _ _)⟩
   case round =>
    obtain ⟨k,hk,rfl,rfl,HBL⟩:=hrel
    have HBr:=HB.below HBL.out (by simp)
    have c0 : wr.cell? ⟨w.heap.size,0,none⟩ = some (.bool true):=HBr.cell 0
    have c1 : wr.cell? ⟨w.heap.size,1,none⟩ = some (.slice (some ad) D.length cp):=HBr.cell 1
    have c2 : wr.cell? ⟨w.heap.size,2,none⟩ = some (.int .i64 p):=HBr.cell 2
    have hsr:=HBL.out.size
    simp at hsr
    have hbw : Below w.heap.size w wr:=((Below.refl w.heap.size w).alloc (Nat.le_refl _) _).trans (HBL.out.mono (by simp))
    have HBW:=Lib.hid hbw
    have hol : (⟨(sg ++ D.take k).toArray⟩ : ByteArray).size <= 1001:=by
     have:=HSL.out
     rw [size_of,List.length_append,List.length_take]; omega
    clear hbw
    by_cases hlt : k < D.length
    ·have hck : wr.cell? (ad.add k) = some (.int .i64 (dI D[k])):=by
      have h1:=HC.out k hlt
      have h2:=cell?_alloc_old (.cells #[.bool true,.slice (some ad) D.length cp,.int .i64 p] 180) h1
      have h3:=cell_lt h1
      exact (HBL.out.cell (p:=ad.add k) (by omega)).trans h2
     have hdk:=List.all_eq_true.1 hdig D[k] (List.getElem_mem hlt)
     have hrg:=dig_range hdk
     have hdd:=dig_dec D[k] hdk
     have HDD:=Lib.hid hdd
     have hdi : dI D[k] = ((D[k].toNat - 48 : Nat) : Int):=by unfold dI; omega
     have HDI:=Lib.hid hdi
     have htk : sg ++ D.take (k + 1) = sg ++ D.take k ++ [D[k]]:=by
      rw [List.take_succ_eq_append_getElem hlt,List.append_assoc]
     have HTK:=Lib.hid htk
     have hki : (k : Int) < D.length:=by omega
     have hka : (⟨[D[k]].toArray⟩ : ByteArray).size <= 1:=by rw [size_of]; simp
     clear hdk hrg hdd hdi htk
     go_wp2_with (fail)
     refine (rdigits_any _ _ HDI.out _ (by have:=D[k].toNat_lt; omega)).mono ?_
     rintro e w2 ⟨rfl,hb2⟩
     rw [HDD.out]
     go_wp2
     go_roundw
     case rel =>
      refine ⟨k + 1,by omega,by go_num,?_,Lib.hid (HBL.out.trans (hb2.mono (by omega)))⟩
      rw [HTK.out,app_list]
     case measure => simp [intOf]; omega
    ·have hdt : D.take k = D:=List.take_of_length_le (by omega)
     rw [hdt] at hol ⊢
     have hki : (D.length : Int) <= k:=by omega
     have hsgl:=HSL.out
     clear hdt
     rcases Int.lt_trichotomy p 0 with hp0 | hp0 | hp0
     ·have hT : formL ⟨true,D,p⟩ = sg ++ D ++ [101,45] ++ Lib.decDigits p.natAbs:=by
       rw [HF.out,HSG.out]
       unfold tailI Lib.itoa
       rw [if_neg (by omega),if_pos hp0]
       simp
      have HT:=Lib.hid hT
      have hnp : -p = ((p.natAbs : Nat) : Int):=by omega
      have HNP:=Lib.hid hnp
      have hpn : ¬ 0 < p:=by omega
      clear hT hnp
      go_wp2_with (fail)
      refine (rdigits_any p.natAbs _ HNP.out _ (by omega)).mono ?_
      rintro e w2 ⟨rfl,hb2⟩
      have hdl2 : (Lib.decDigits p.natAbs).length <= 100:=by
       have:=itoa_len p ⟨by omega,by omega⟩
       unfold Lib.itoa at this
       rw [if_pos hp0] at this
       simp at this
       omega
      go_wp2
      go_ret
      refine ⟨?_,HBW.out.trans (hb2.mono HBW.out.size)⟩
      rw [HT.out]
      simp only [<- app_list]
      rfl
     ·have hT : formL ⟨true,D,p⟩ = sg ++ D:=by
       rw [HF.out,HSG.out]
       unfold tailI
       rw [if_pos hp0]
       simp
      have HT:=Lib.hid hT
      have hpn : ¬ 0 < p:=by omega
      have hpm : ¬ p < 0:=by omega
      clear hT hp0
      go_wp2
      go_ret
      exact ⟨ret_str HT.out.symm,HBW.out⟩
     ·have hT : formL ⟨true,D,p⟩ = sg ++ D ++ [101] ++ Lib.decDigits p.toNat:=by
       rw [HF.out,HSG.out]
       unfold tailI Lib.itoa
       rw [if_neg (by omega),if_neg (by omega)]
       simp
      have HT:=Lib.hid hT
      have hnp : p = ((p.toNat : Nat) : Int):=by omega
      have HNP:=Lib.hid hnp
      have hpm : ¬ p < 0:=by omega
      have hdl2 : (Lib.decDigits p.toNat).length <= 100:=by
       have:=itoa_len p ⟨by omega,by omega⟩
       unfold Lib.itoa at this
       rw [if_neg (by omega)] at this
       omega
      clear hT hnp
      go_wp2_with (fail)
      refine (rdigits_any p.toNat _ HNP.out _ (by omega)).mono ?_
      rintro e w2 ⟨rfl,hb2⟩
      have HBR2:=HBr.below hb2 (by omega)
      have e2 : w2.cell? ⟨w.heap.size,2,none⟩ = some (.int .i64 p):=HBR2.cell 2
      go_wp2
      go_ret
      refine ⟨?_,HBW.out.trans (hb2.mono HBW.out.size)⟩
      rw [HT.out]
      simp only [<- app_list]
      rfl
end Go.Proofs.YtbnppjmmlfncmaaGreatDoor.Nm
