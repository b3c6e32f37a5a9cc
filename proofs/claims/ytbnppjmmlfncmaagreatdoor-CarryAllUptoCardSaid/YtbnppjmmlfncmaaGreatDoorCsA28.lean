/-
  The reference's Walk; Few and few.
  Nodes: what follows from few, and from their walks (pure).
  carry: Row; the reference's Row.
  What a tree is, node by node (pure): the kinds of what stands in a node, the keys of a map, the attributes of an element.
-/
import Derived.Test.YtbnppjmmlfncmaaGreatDoorCsA27
import Derived.Test.YtbnppjmmlfncmaaGreatDoorCsA16
import Derived.Test.YtbnppjmmlfncmaaGreatDoorCsA15
import Derived.Test.YtbnppjmmlfncmaaGreatDoorCsA03
set_option maxRecDepth 100000
set_option linter.unusedSimpArgs false
namespace Go.Proofs.YtbnppjmmlfncmaaGreatDoor
open Go.RowKit Go.Maps
set_option maxHeartbeats 4000000 in
theorem rwalk_any (n : Nd) (A : Option Addr) (c : Nat) (w : World) (hs : smallT n) (hz : sizeN n <= 40000) (hA : NAt (fun b _ => b < w.heap.size) w n A c) :
 Calls Tryz.prog 19 #[.agg #[.int .i64 n.k,.string n.t,.string n.v,.slice A n.kids.length c]] w fun e w' => ∃ lv,e = .returned (.tuple #[lv,.int .i64 (mayN n)]) /\ Below w.heap.size w w' /\ (mayN n ≠ 0 -> lv = .slice none 0 0) /\ (mayN n = 0 -> ERow w' w.heap.size lv (flat n)):=by
 have hal : Below w.heap.size w (w.alloc (.cells #[.int .i64 n.k,.string n.t,.string n.v,.slice A n.kids.length c] 24)):=(Below.refl _ _).alloc (Nat.le_refl _) _
 have hG:=rgoes_any n A c (w.alloc (.cells #[.int .i64 n.k,.string n.t,.string n.v,.slice A n.kids.length c] 24)) w.heap.size (.slice none 0 0) [] [topP] hal.size (ERow.nil _ _) taken_nil (hA.below hal) hs (by simp; omega)
 have hE:=mayN_goes n
 have hok:=goesN_ok n ([],[topP])
 unfold GPost at hG
 generalize goesN n ([],[topP]) = R at *
 by_cases hm : mayN n = 0
 ·have hR:=(hok (by rw [hE]; exact hm)).2
  simp only [List.nil_append] at hR
  have hfl:=flat_len n
  have hW:=fun w' v (h : ERow w' w.heap.size v (flat n)) => rwhole_any w' v (flat n) h.read (fun x hx => by have:=flat_small n hs x hx; omega) (by omega)
  rw [may_whole hm] at hW
  unfold WEnd at hW
  simp only at hW
  rw [hE,hm,hR] at hG
  rw [hm]
  generalize flat n = F at *
  clear hE hok hR hA hfl hs hz hm
  go_enter Tryz.func19,Tryz.ntmps19
  go_wp2_with (first
   | (go_at_call 35; refine hG.mono ?_; clear hG; rintro e w1 ⟨v1,rfl,row1,hO1⟩)
   | (go_at_call 36; refine (hW _ _ row1).mono ?_; clear hW; rintro e w2 ⟨rfl,hb2⟩))
  go_ret2
  have hb1:=hal.trans ((hO1.none_below).mono hal.size)
  exact ⟨_,rfl,hb1.trans (hb2.mono hb1.size),fun h => absurd rfl h,fun _ => row1.below hb2⟩
 ·rw [hE] at hG
  have z1:=ibeq hm
  have z2:=ibne hm
  generalize mayN n = E at *
  clear hok hA hE
  go_enter Tryz.func19,Tryz.ntmps19
  go_wp2_with (first
   | (go_at_call 35; refine hG.mono ?_; clear hG; rintro e w1 ⟨v1,rfl,row1,hO1⟩))
  go_ret2
  exact ⟨_,rfl,hal.trans ((hO1.none_below).mono hal.size),fun _ => rfl,fun h => absurd h hm⟩
theorem fewL_append : ∀ (a b : List Nd) (left deep : Int),fewL (a ++ b) left deep = fewL b (fewL a left deep) deep
 | [],b,left,deep => rfl
 | n :: a,b,left,deep => by
  simp only [List.cons_append,fewL]
  split
  ·rename_i h; rw [fewL_neg _ _ _ h]
  ·exact fewL_append a b _ _
theorem fewL_at {kids : List Nd} {j : Nat} (hj : j < kids.length) (left deep : Int) (h : 0 <= fewL (kids.take j) left deep) : fewL (kids.take (j + 1)) left deep = fewN kids[j] (fewL (kids.take j) left deep) deep:=by
 rw [List.take_succ_eq_append_getElem hj,fewL_append]
 simp only [fewL]
 rw [if_neg (by omega)]
theorem fewL_stop {kids : List Nd} {j : Nat} (left deep : Int) (h : fewL (kids.take j) left deep < 0) : fewL kids left deep = fewL (kids.take j) left deep:=by
 have : fewL kids left deep = fewL (kids.take j ++ kids.drop j) left deep:=by rw [List.take_append_drop]
 rw [this,fewL_append,fewL_neg _ _ _ h]
set_option maxHeartbeats 4000000 in
theorem rfew_any (n : Nd) : ∀ (left deep : Int) (S : Nat -> Nat -> Prop) (A : Option Addr) (c : Nat) (w : World),0 <= left -> left <= 300 -> -1 <= deep -> deep <= 20 -> NAt S w n A c ->
 Calls Tryz.prog 23 #[.agg #[.int .i64 n.k,.string n.t,.string n.v,.slice A n.kids.length c],.int .i64 left,.int .i64 deep] w fun e w' => e = .returned (.int .i64 (fewN n left deep)) /\ Below w.heap.size w w':=by
 induction n using Nd.ind with
 | h k t v kids ih =>
  intro left deep S A c w h0 h1 h2 h3 hA
  simp only [Nd.k,Nd.t,Nd.v,Nd.kids]
  obtain ⟨hlc,hcm,hkids⟩:=(NAt.def_ _ _ _).1 hA
  simp only [Nd.kids] at hlc hkids
  have hcm2 : c <= 9223372036854775807:=by simpa [maxLen] using hcm
  have hfn : fewN (.mk k t v kids) left deep = if deep < 0 then -1 else fewL kids (left - 1) (deep - 1):=rfl
  by_cases hd : deep < 0
  ·rw [if_pos hd] at hfn
   have HF:=Lib.hid hfn
   clear hkids ih hA hfn
   go_enter Tryz.func23,Tryz.ntmps23
   go_wp2
   go_ret
   exact ⟨by rw [HF.out]; rfl,(Below.refl _ _).alloc (Nat.le_refl _) _⟩
  ·rw [if_neg hd] at hfn
   have HF:=Lib.hid hfn
   have hle:=fun (j : Nat) => fewL_le (kids.take j) (left - 1) (deep - 1) (by omega)
   have hat:=fun (j : Nat) (hj : j < kids.length) h => fewL_at hj (left - 1) (deep - 1) h
   have hst:=fun (j : Nat) h => fewL_stop (kids:=kids) (j:=j) (left - 1) (deep - 1) h
   have hg0 : fewL (kids.take 0) (left - 1) (deep - 1) = left - 1:=rfl
   have hge : fewL (kids.take kids.length) (left - 1) (deep - 1) = fewL kids (left - 1) (deep - 1):=by rw [List.take_length]
   obtain ⟨G,hG⟩ : ∃ G : Nat -> Int,∀ j,fewL (kids.take j) (left - 1) (deep - 1) = G j:=⟨_,fun _ => rfl⟩
   simp only [hG] at hle hat hst hg0 hge
   have HB:=Lib.hid (show Below w.heap.size w (w.alloc (.cells #[.int .i64 k,.string t,.string v,.slice A kids.length c] 24)) from (Below.refl _ _).alloc (Nat.le_refl _) _)
   have hX:=Blk.new w 24 #[.int .i64 k,.string t,.string v,.slice A kids.length c]
   clear hfn hA hG
   go_enter Tryz.func23,Tryz.ntmps23
   go_wp2
   go_loopw [1,7] (fun l i wr => ∃ (j : Nat),j <= kids.length /\ i = .int .i64 (j : Int) /\ l = .int .i64 (G j) /\ Hid (Below w.heap.size w wr) /\ Blk wr w.heap.size 24 #[.int .i64 k,.string t,.string v,.slice A kids.length c]) (fun _ i _ => kids.length - (intOf i).toNat)
   case atStart => exact ⟨0,Nat.zero_le _,rfl,by rw [hg0],HB,hX⟩
   case round =>
    obtain ⟨j,hj,rfl,rfl,HW,hb⟩:=hrel
    have g3 : wr.cell? ⟨w.heap.size,3,none⟩ = some (.slice A kids.length c):=hb.cell 3
    have hlj:=hle j
    by_cases hlt : j < kids.length
    case neg =>
     have hje : j = kids.length:=by omega
     subst hje
     have HE:=Lib.hid hge
     have hc0 : decide ((kids.length : Int) < kids.length) = false:=decide_eq_false (by omega)
     clear hge hat hst hle ih hkids hlj hX hg0
     go_wp2
     go_ret
     exact ⟨by rw [HF.out,<- HE.out]; rfl,HW.out⟩
    case pos =>
     by_cases hn : G j < 0
     case pos =>
      have HS:=Lib.hid (hst j hn)
      clear hge hat hst hle ih hkids hlj hX hg0
      go_wp2
      go_ret
      exact ⟨by rw [HF.out,HS.out]; rfl,HW.out⟩
     case neg =>
      obtain ⟨b,o,rfl,_,hkid⟩:=hkids (by omega)
      obtain ⟨B,cB,q0,q1,q2,q3,hnk⟩:=kid_cells (hkid j hlt) HW.out
      have HA:=Lib.hid (hat j hlt (by omega))
      have hih:=ih _ (List.getElem_mem hlt) (G j) (deep - 1) S B cB wr (by omega) (by omega) (by omega) (by omega) hnk
      have HE:=Lib.hid hge
      have hge0 : 0 <= G j:=by omega
      have hgt : ¬ G j < 0:=hn
      clear hge hat hst hle ih hkids hlj hX hkid hnk hg0 hn
      generalize kids[j] = kd at *
      rw [<- HA.out] at hih
      go_wp2_with (first
       | (go_at_call 23; refine hih.mono ?_; clear hih; rintro e w5 ⟨rfl,hb5⟩))
      go_roundw
      case rel => exact ⟨j + 1,hlt,by go_num,rfl,Lib.hid (HW.out.trans (hb5.mono HW.out.size)),hb.below hb5 hb.lt⟩
      case measure => first | (simp [intOf]; done) | (simp [intOf]; omega)
theorem sizeL_mem {l : List Nd} {n : Nd} (h : n ∈ l) : sizeN n <= sizeL l:=by
 induction l with
 | nil => cases h
 | cons m r ih =>
  simp only [sizeL]
  rcases List.mem_cons.1 h with rfl | h
  ·omega
  ·have:=ih h; omega
theorem okT_of (n : Nd) : ∀ R,okW R n -> R <= 140737488355328 -> sizeN n <= 1000000000000 -> okT n:=by
 induction n using Nd.ind with
 | h k t v kids ih =>
  intro R h hR hs
  simp only [okW] at h
  obtain ⟨⟨h1,h2,h3,h4⟩,h5⟩:=h
  simp only [sizeN] at hs
  have hl:=sizeL_len kids
  refine ⟨⟨h1,h2,Nat.le_trans h3 hR,Nat.le_trans h4 hR⟩,by omega,okTL_mem.2 fun m hm => ih m hm R (okWL_mem.1 h5 m hm) hR ?_⟩
  have:=sizeL_mem hm
  omega
theorem small_of (n : Nd) : okW 1048576 n -> smallT n:=by
 induction n using Nd.ind with
 | h k t v kids ih =>
  intro h
  simp only [okW] at h
  obtain ⟨⟨_,_,h3,h4⟩,h5⟩:=h
  exact ⟨h3,h4,smallL_mem.2 fun m hm => ih m hm (okWL_mem.1 h5 m hm)⟩
theorem strCat (a b : List UInt8) : (⟨a.toArray⟩ : ByteArray) ++ ⟨b.toArray⟩ = ⟨(a ++ b).toArray⟩:=by simp [ByteArray.append_eq,ByteArray.ext_iff,ByteArray.data_append]
theorem sizeOf_ (a : List UInt8) : (⟨a.toArray⟩ : ByteArray).size = a.length:=by simp [ByteArray.size]
def RowAt (n : Nd) : Prop:=∀ (S : Nat -> Nat -> Prop) (A : Option Addr) (c : Nat) (w : World),NAt S w n A c -> smallT n -> sizeN n * 1048900 <= 100000000000 ->
    Calls Tryz.prog 132 #[.agg #[.int .i64 n.k,.string n.t,.string n.v,.slice A n.kids.length c]] w fun e w' => e = .returned (.string ⟨(rowN n).toArray⟩) /\ Below w.heap.size w w'
set_option maxHeartbeats 16000000 in
theorem rrow_any (n : Nd) : RowAt n:=by
 induction n using Nd.ind with
 | h k t v l ih =>
  intro S A c w hA hsm hsz
  simp only [Nd.k,Nd.t,Nd.v,Nd.kids]
  obtain ⟨hts,hvs,hls⟩:=hsm
  obtain ⟨hlc,hcm,hkids⟩:=(NAt.def_ _ _ _).1 hA
  simp only [Nd.kids] at hlc hkids
  have hcm2 : c <= 9223372036854775807:=by simpa [maxLen] using hcm
  have hsz2 : (1 + sizeL l) * 1048900 <= 100000000000:=by simpa [sizeN] using hsz
  obtain ⟨W0,hW0⟩ : ∃ W0,w.alloc (.cells #[.int .i64 k,.string t,.string v,.slice A l.length c] 24) = W0:=⟨_,rfl⟩
  have al:=al_nd w #[.int .i64 k,.string t,.string v,.slice A l.length c]
  have hX:=Blk.new w 24 #[.int .i64 k,.string t,.string v,.slice A l.length c]
  rw [hW0] at al hX
  have HAL:=Lib.hid al
  have HX:=Lib.hid hX
  have HSL : Hid (∀ j,(seqN true (l.take j)).length <= sizeL (l.take j) * 1048900):=Lib.hid fun j => seqN_len _ (smallL_take l j hls) true
  have HSE : Hid (l.take l.length = l):=Lib.hid List.take_length
  have HST : Hid (∀ j (h : j < l.length),sizeL (l.take j) + sizeN (l.getD j dNd) <= sizeL l):=Lib.hid (sizeL_take l)
  have HSA : Hid (∀ j (h : j < l.length),seqN true (l.take (j + 1)) = seqN true (l.take j) ++ ((if true = true /\ j = 0 then [] else [44,32]) ++ rowN (l.getD j dNd))):=Lib.hid (seq_at l true)
  have HSM : Hid (∀ j (h : j < l.length),smallT (l.getD j dNd)):=Lib.hid fun j h => by
   rw [getDn h]
   exact smallL_mem.1 hls _ (List.getElem_mem h)
  have HIH : Hid (∀ j (h : j < l.length),RowAt (l.getD j dNd)):=Lib.hid fun j h => by rw [getDn h]; exact ih _ (List.getElem_mem h)
  have HKD : Hid (0 < l.length -> ∃ b o,A = some ⟨b,o,none⟩ /\ S b o /\ ∀ (j : Nat) (h : j < l.length),KidAt S w b (o + j * 4) (l.getD j dNd)):=Lib.hid fun hp => by
   obtain ⟨b,o,h1,h2,h3⟩:=hkids hp
   exact ⟨b,o,h1,h2,fun j h => by rw [getDn h]; exact h3 j h⟩
  have hsl:=seqN_len l hls true
  have hl2 : (⟨#[44,32]⟩ : ByteArray).size = 2:=rfl
  have hl3 : (⟨#[32,61,32]⟩ : ByteArray).size = 3:=rfl
  have hl4 : (⟨#[91]⟩ : ByteArray).size = 1:=rfl
  have hl5 : (⟨#[93]⟩ : ByteArray).size = 1:=rfl
  have hl6 : (⟨#[123]⟩ : ByteArray).size = 1:=rfl
  have hl7 : (⟨#[125]⟩ : ByteArray).size = 1:=rfl
  have hpl:=prText_len t.data.toList
  have hwl:=wordL_len t.data.toList
  have htl : t.data.toList.length = t.size:=by simp
  obtain ⟨L,hL⟩ : ∃ L,rowN (.mk k t v l) = L:=⟨_,rfl⟩
  rw [hL]
  have HL:=Lib.hid hL
  clear ih hA hkids al hX hL hls hsz
  go_enter Tryz.func132,Tryz.ntmps132
  go_wp2
  clear hW0
  go_loopw [3,4] (fun o i wr => ∃ j : Nat,j <= l.length /\ i = .int .i64 (j : Int) /\ o = .string ⟨(seqN true (l.take j)).toArray⟩ /\ Hid (Below W0.heap.size W0 wr)) (fun _ i _ => l.length - (intOf i).toNat)
  case atStart => exact ⟨0,Nat.zero_le _,rfl,rfl,Lib.hid (Below.refl _ _)⟩
  case round =>
   obtain ⟨j,hj,rfl,rfl,HW⟩:=hrel
   have hbw : Below w.heap.size w wr:=HAL.out.trans (HW.out.mono HAL.out.size)
   have hXw:=HX.out.below HW.out HX.out.lt
   have x3 : wr.cell? ⟨w.heap.size,3,none⟩ = some (.slice A l.length c):=hXw.cell 3
   have hsj:=HSL.out j
   by_cases hlt : j < l.length
   case pos =>
    obtain ⟨b,o,rfl,_,hkid⟩:=HKD.out (by omega)
    obtain ⟨B,cB,q0,q1,q2,q3,hn1⟩:=kid_cells (hkid j hlt) hbw
    have hjc : j < c:=by omega
    have hst:=HST.out j hlt
    have hsa:=HSA.out j hlt
    have hms:=HSM.out j hlt
    have hih:=HIH.out j hlt
    have hrl:=rowN_len _ hms
    clear hkid HSE HST HSA HSM HIH HSL HKD HL hXw hpl hwl htl hsl
    unfold RowAt at hih
    generalize l.getD j dNd = kd at *
    obtain ⟨P,hP⟩ : ∃ P,seqN true (l.take j) = P:=⟨_,rfl⟩
    have HN : Hid (∀ X,X = (if j = 0 then ([] : List UInt8) else [44,32]) -> seqN true (l.take (j + 1)) = P ++ X ++ rowN kd):=Lib.hid (by
     rintro X rfl
     rw [hsa,<- hP]
     simp [List.append_assoc])
    rw [hP] at hsj ⊢
    have hks : sizeN kd * 1048900 <= 100000000000:=Nat.le_trans (Nat.mul_le_mul_right _ (show sizeN kd <= 1 + sizeL l from Nat.le_trans (Nat.le_trans (Nat.le_add_left _ _) hst) (Nat.le_add_left _ _))) hsz2
    have hC:=hih S B cB wr hn1 hms hks
    have hPs : (⟨P.toArray⟩ : ByteArray).size <= 100000000000:=by rw [sizeOf_]; omega
    have hPs2 : (⟨(P ++ [44,32]).toArray⟩ : ByteArray).size <= 100000000002:=by rw [sizeOf_]; simp only [List.length_append,List.length_cons,List.length_nil]; omega
    have hKs : (⟨(rowN kd).toArray⟩ : ByteArray).size <= 100000000000:=by rw [sizeOf_]; omega
    have HC1:=Lib.hid (strCat P [44,32])
    have HC2:=Lib.hid (strCat P (rowN kd))
    have HC3:=Lib.hid (strCat (P ++ [44,32]) (rowN kd))
    generalize rowN kd = RK at *
    clear hsa hst hsj hP hih hn1 hms hrl
    by_cases hj0 : j = 0
    case pos =>
     have HZ:=Lib.hid (HN.out [] (by rw [if_pos hj0]))
     have hz : ¬ 0 < j:=by omega
     clear HN hj0
     go_wp2_with fail
     refine hC.mono ?_
     rintro e w3 ⟨rfl,hB3⟩
     have HB3:=Lib.hid (HW.out.trans (hB3.mono HW.out.size))
     clear hB3 hC
     go_wp2
     go_roundw
     case rel => exact ⟨j + 1,by omega,by go_num,by rw [HZ.out,List.append_nil,<- HC2.out],HB3⟩
     case measure => first | (simp [intOf]; done) | (simp [intOf]; omega)
    case neg =>
     have HZ:=Lib.hid (HN.out [44,32] (by rw [if_neg hj0]))
     have hz : 0 < j:=by omega
     clear HN hj0
     go_wp2_with fail
     refine hC.mono ?_
     rintro e w3 ⟨rfl,hB3⟩
     have HB3:=Lib.hid (HW.out.trans (hB3.mono HW.out.size))
     clear hB3 hC
     rw [HC1.out]
     go_wp2
     go_roundw
     case rel => exact ⟨j + 1,by omega,by go_num,by rw [HZ.out,<- HC3.out],HB3⟩
     case measure => first | (simp [intOf]; done) | (simp [intOf]; omega)
   case neg =>
    obtain rfl : j = l.length:=by omega
    have hse:=HSE.out
    rw [hse] at hsj ⊢
    have HBW:=Lib.hid hbw
    have x0 : wr.cell? ⟨w.heap.size,0,none⟩ = some (.int .i64 k):=hXw.cell 0
    have x1 : wr.cell? ⟨w.heap.size,1,none⟩ = some (.string t):=hXw.cell 1
    have hL:=HL.out
    have hSs : (⟨(seqN true l).toArray⟩ : ByteArray).size <= 100000000000:=by rw [sizeOf_]; omega
    clear HSE HST HSA HSM HIH HSL HKD HL hbw hXw hse
    by_cases h1 : k = 1
    ·subst h1
     rw [rowN_1] at hL
     subst hL
     go_wp2
     go_ret
     exact ⟨rfl,HBW.out⟩
    by_cases h4 : k = 4
    ·subst h4
     rw [rowN_4] at hL
     have hP:=Qt.rprint_any t wr (by omega)
     unfold Qt.PrintEnd at hP
     rw [hL] at hP
     generalize Qt.prErr t.data.toList = E at *
     have HL:=Lib.hid hL
     clear hL
     go_wp2_with fail
     refine hP.mono ?_
     rintro e w3 ⟨rfl,hB3⟩
     have HB3:=Lib.hid (HBW.out.trans (hB3.mono HBW.out.size))
     clear hB3 hP
     go_wp2
     go_ret
     exact ⟨rfl,HB3.out⟩
    by_cases h5 : k = 5
    ·subst h5
     rw [rowN_5] at hL
     have HC1:=Lib.hid (strCat [91] (seqN true l))
     have HC2:=Lib.hid (strCat ([91] ++ seqN true l) [93])
     have hPs2 : (⟨([91] ++ seqN true l).toArray⟩ : ByteArray).size <= 100000000002:=by rw [sizeOf_]; simp only [List.length_append,List.length_cons,List.length_nil]; omega
     have HL:=Lib.hid hL
     clear hL
     generalize seqN true l = SQ at *
     have HL2 : Hid ([91] ++ SQ ++ [93] = L):=Lib.hid (by rw [<- HL.out]; simp)
     go_wp2
     go_ret
     refine ⟨?_,HBW.out⟩
     rw [<- HL2.out,<- HC2.out,<- HC1.out] <;> rfl
    by_cases h7 : k = 7
    ·subst h7
     rw [rowN_7] at hL
     have HC1:=Lib.hid (strCat [123] (seqN true l))
     have HC2:=Lib.hid (strCat ([123] ++ seqN true l) [125])
     have hPs2 : (⟨([123] ++ seqN true l).toArray⟩ : ByteArray).size <= 100000000002:=by rw [sizeOf_]; simp only [List.length_append,List.length_cons,List.length_nil]; omega
     have HL:=Lib.hid hL
     clear hL
     generalize seqN true l = SQ at *
     have HL2 : Hid ([123] ++ SQ ++ [125] = L):=Lib.hid (by rw [<- HL.out]; simp)
     go_wp2
     go_ret
     refine ⟨?_,HBW.out⟩
     rw [<- HL2.out,<- HC2.out,<- HC1.out] <;> rfl
    by_cases h8 : k = 8
    ·subst h8
     rw [rowN_8] at hL
     have hP:=rword_any t wr (by omega)
     obtain ⟨X,hX⟩ : ∃ X,wordL t.data.toList = X:=⟨_,rfl⟩
     rw [hX] at hP hL hwl
     have HC1:=Lib.hid (strCat X [32,61,32])
     have HC2:=Lib.hid (strCat (X ++ [32,61,32]) (seqN true l))
     have hPs1 : (⟨X.toArray⟩ : ByteArray).size <= 100000000002:=by rw [sizeOf_]; omega
     have hPs2 : (⟨(X ++ [32,61,32]).toArray⟩ : ByteArray).size <= 100000000002:=by rw [sizeOf_]; simp only [List.length_append,List.length_cons,List.length_nil]; omega
     have HL:=Lib.hid hL
     clear hL hX
     generalize seqN true l = SQ at *
     have HL2 : Hid (X ++ [32,61,32] ++ SQ = L):=Lib.hid (by rw [<- HL.out]; simp)
     go_wp2_with fail
     refine hP.mono ?_
     rintro e w3 ⟨rfl,hB3⟩
     have HB3:=Lib.hid (HBW.out.trans (hB3.mono HBW.out.size))
     clear hB3 hP
     go_wp2
     go_ret
     refine ⟨?_,HB3.out⟩
     rw [<- HL2.out,<- HC2.out,<- HC1.out] <;> rfl
    have z1:=ibeq h1
    have z4:=ibeq h4
    have z5:=ibeq h5
    have z7:=ibeq h7
    have z8:=ibeq h8
    rw [rowN_e t v l h1 h4 h5 h7 h8] at hL
    have HL:=Lib.hid hL
    clear h1 h4 h5 h7 h8 hL
    go_wp2
    go_ret
    exact ⟨by rw [<- HL.out] <;> rfl,HBW.out⟩
def aft (n : Nd) (p : Pt) : Pt :=
 if n.k = 8 then (match n.kids with | m :: _ => { p with last:=m.k,keys:=n.t.data.toList :: p.keys } | [] => p)
 else if n.k = 11 then { p with last:=11,keys:=n.t.data.toList :: p.keys } else { p with last:=n.k }
theorem aft_val {n : Nd} (p : Pt) (h8 : n.k ≠ 8) (h11 : n.k ≠ 11) : aft n p = { p with last:=n.k }:=by unfold aft; rw [if_neg h8,if_neg h11]
theorem aft_attr {n : Nd} (p : Pt) (h11 : n.k = 11) : aft n p = { p with last:=11,keys:=n.t.data.toList :: p.keys }:=by unfold aft; rw [if_neg (by omega),if_pos h11]
theorem aft_key {n m : Nd} (p : Pt) (h8 : n.k = 8) (hm : n.kids = [m]) : aft n p = { p with last:=m.k,keys:=n.t.data.toList :: p.keys }:=by unfold aft; rw [if_pos h8,hm]
theorem aft_kind (n : Nd) (p : Pt) : (aft n p).kind = p.kind:=by
 unfold aft
 split
 ·split <;> rfl
 ·split <;> rfl
def aftL (l : List Nd) (p : Pt) : Pt:=l.foldl (fun p n => aft n p) p
theorem run_cons (st : List Pt) (x : Ev) (l : List Ev) : runS st (x :: l) = runS (stepS st x) l:=rfl
theorem gk_shape {k : Int} {kids : List Nd} (h : okShape k kids.length = true) (ho : opensK k = false) : (k = 8 /\ ∃ m,kids = [m]) \/ (k ≠ 8 /\ leafK k = true /\ kids = []):=by
 unfold okShape at h
 rw [ho] at h
 simp only [Bool.false_or,Bool.or_eq_true,Bool.and_eq_true,decide_eq_true_iff] at h
 rcases h with ⟨h1,h2⟩ | ⟨h1,h2⟩
 ·refine .inr ⟨?_,h1,List.eq_nil_of_length_eq_zero h2⟩
  unfold leafK at h1
  rw [decide_eq_true_iff] at h1
  omega
 ·exact .inl ⟨h1,List.length_eq_one_iff.1 h2⟩
theorem opens_k {k : Int} (h : opensK k = true) : k = 5 \/ k = 7 \/ k = 10:=of_decide_eq_true h
mutual
theorem run_flat : ∀ (n : Nd) (p : Pt) (r : List Pt),shaped n = true -> Good (p :: r) -> allOk (p :: r) (flat n) -> runS (p :: r) (flat n) = aft n p :: r
 | .mk k t v kids,p,r,hs,hg,ha => by
  simp only [shaped,Bool.and_eq_true] at hs
  simp only [flat,allOk] at ha
  have hb:=(allOk_append _ _ _).1 ha.2
  have hg1:=good_step hg ⟨k,t,v⟩
  have he:=shape_head hs.1
  have hst : stepS (p :: r) ⟨k,t,v⟩ = goS (p :: r) ⟨k,t,v⟩:=by unfold stepS; rw [if_pos ha.1]
  simp only [flat]
  rw [run_cons,runS_append]
  cases ho : opensK k with
  | true =>
   simp only [endL,ho,if_true] at hb ⊢
   have hgo : goS (p :: r) ⟨k,t,v⟩ = ⟨k,0,[]⟩ :: { p with last:=k } :: r:=by simp [goS,he,ho]
   rw [hst,hgo] at hb hg1 ⊢
   have hk:=runL_flat kids ⟨k,0,[]⟩ ({ p with last:=k } :: r) hs.2 hg1 hb.1
   rw [hk] at hb ⊢
   have h2 : stepE (aftL kids ⟨k,0,[]⟩ :: { p with last:=k } :: r) (endE (endK k)) = 0:=hb.2.1
   show stepS _ _ = _
   unfold stepS
   rw [if_pos h2]
   simp only [goS]
   rw [if_pos (by exact ends_endK k)]
   have hk8:=opens_k ho
   rw [aft_val (n:=.mk k t v kids) p (by show k ≠ 8; omega) (by show k ≠ 11; omega)]
   rfl
  | false =>
   simp only [endL,ho,if_false,Bool.false_eq_true] at hb ⊢
   show runS _ (flatL kids) = _
   rcases gk_shape hs.1 ho with ⟨h8,m,hm⟩ | ⟨h8,hl,hm⟩
   ·subst h8 hm
    have hgo : goS (p :: r) ⟨8,t,v⟩ = { p with last:=8,keys:=t.data.toList :: p.keys } :: r:=by simp [goS,he,ho]
    rw [hst,hgo] at hb hg1 ⊢
    simp only [shapedL,Bool.and_eq_true] at hs
    simp only [flatL,List.append_nil] at hb ⊢
    have hm1:=run_flat m _ r hs.2.1 hg1 hb.1
    rw [hm1]
    have hmv : m.k ≠ 8 /\ m.k ≠ 11:=by
     cases m with
     | mk k2 t2 v2 kids2 =>
      simp only [flat,allOk] at hb
      have hc:=(cont_of hb.1.1).2
      have hk0 : valueK k2 = true:=by
       have hc0:=(cont_of ha.1).2
       simp only [contB] at hc hc0
       by_cases h5 : p.kind = 5
       ·rw [if_pos h5] at hc0
        simp [valueK] at hc0
       rw [if_neg h5] at hc0 hc
       by_cases h7 : p.kind = 7
       ·rw [if_pos h7] at hc
        exact hc
       rw [if_neg h7] at hc0 hc
       by_cases h10 : p.kind = 10
       ·rw [if_pos h10] at hc0
        simp [contElem] at hc0
       rw [if_neg h10] at hc0
       simp [valueK] at hc0
      simp only [Nd.k]
      unfold valueK at hk0
      rw [decide_eq_true_iff] at hk0
      omega
    rw [aft_key (n:=.mk 8 t v [m]) p rfl rfl,aft_val _ hmv.1 hmv.2]
    rfl
   ·subst hm
    have hgo : goS (p :: r) ⟨k,t,v⟩ = aft (.mk k t v []) p :: r:=by
     simp only [goS]
     rw [if_neg (by rw [he]; decide),if_neg (by rw [ho]; decide)]
     by_cases h11 : k = 11
     ·rw [if_pos (.inr h11),aft_attr (n:=.mk k t v []) p h11,h11]
      rfl
     ·rw [if_neg (by omega),aft_val (n:=.mk k t v []) p h8 h11]
      rfl
    rw [hst,hgo]
    rfl
theorem runL_flat : ∀ (l : List Nd) (p : Pt) (r : List Pt),shapedL l = true -> Good (p :: r) -> allOk (p :: r) (flatL l) -> runS (p :: r) (flatL l) = aftL l p :: r
 | [],p,r,_,_,_ => rfl
 | n :: l,p,r,hs,hg,ha => by
  simp only [shapedL,Bool.and_eq_true] at hs
  simp only [flatL] at ha ⊢
  have hb:=(allOk_append _ _ _).1 ha
  have h1:=run_flat n p r hs.1 hg hb.1
  have hg2:=good_run hg (flat n)
  rw [runS_append,h1]
  rw [h1] at hb hg2
  exact runL_flat l (aft n p) r hs.2 hg2 hb.2
end
def gramH (k : Int) (t v : ByteArray) (kids : List Nd) : Prop :=
 formedB ⟨k,t,v⟩ = true /\ okShape k kids.length = true /\ (k = 5 \/ k = 8 -> ∀ m ∈ kids,valueK m.k = true) /\
 (k = 7 -> (∀ m ∈ kids,m.k = 8) /\ (kids.map fun m => m.t.data.toList).Nodup /\ kids.length <= 10) /\
 (k = 10 -> ∃ us cs,kids = us ++ cs /\ (∀ m ∈ us,m.k = 11) /\ (∀ m ∈ cs,m.k = 4 \/ m.k = 10) /\ us.length <= 10)
mutual
def gram : Nd -> Prop
 | .mk k t v kids => gramH k t v kids /\ gramL kids
def gramL : List Nd -> Prop
 | [] => True
 | n :: r => gram n /\ gramL r
end
theorem gramL_mem : ∀ {l : List Nd},gramL l ↔ ∀ n ∈ l,gram n
 | [] => by simp [gramL]
 | n :: r => by simp only [gramL,gramL_mem (l:=r),List.mem_cons,forall_eq_or_imp]
theorem gram.head {n : Nd} (h : gram n) : gramH n.k n.t n.v n.kids:=by cases n; exact h.1
theorem gram.kid {n m : Nd} (h : gram n) (hm : m ∈ n.kids) : gram m:=by cases n; exact gramL_mem.1 h.2 m hm
theorem head_ok {n : Nd} {p : Pt} {r : List Pt} (hs : shaped n = true) (h : allOk (p :: r) (flat n)) : stepE (p :: r) ⟨n.k,n.t,n.v⟩ = 0 /\ endsK n.k = false:=by
 cases n with
 | mk k t v kids =>
  simp only [flat,allOk] at h
  simp only [shaped,Bool.and_eq_true] at hs
  exact ⟨h.1,shape_head hs.1⟩
theorem listed : ∀ (l : List Nd) (p : Pt) (r : List Pt),p.kind = 5 -> shapedL l = true -> Good (p :: r) -> allOk (p :: r) (flatL l) -> ∀ m ∈ l,valueK m.k = true
 | [],_,_,_,_,_,_,_,hm => by cases hm
 | n :: l,p,r,hp,hs,hg,ha,m,hm => by
  simp only [shapedL,Bool.and_eq_true] at hs
  simp only [flatL] at ha
  have hb:=(allOk_append _ _ _).1 ha
  have h0:=head_ok hs.1 hb.1
  rcases List.mem_cons.1 hm with rfl | hm
  ·have hc:=(cont_of h0.1).2
   simp only [contB,hp,if_true,Bool.or_eq_true,decide_eq_true_iff] at hc
   rcases hc with hc | hc
   ·exact hc
   ·have:=h0.2
    rw [hc] at this
    exact absurd this (by decide)
  ·have h1:=run_flat n p r hs.1 hg hb.1
   have hg2:=good_run hg (flat n)
   rw [h1] at hb hg2
   exact listed l (aft n p) r ((aft_kind n p).trans hp) hs.2 hg2 hb.2 m hm
theorem step_keys {p : Pt} {r : List Pt} {x : Ev} (h : stepE (p :: r) x = 0) (hx : x.k = 8 \/ x.k = 11) : x.t.data.toList ∉ p.keys /\ p.keys.length < 10:=by
 have hc:=cont_of h
 simp only [stepE] at h
 rw [if_neg (by rw [hc.1,hc.2]; decide),if_neg (by unfold endsK; rw [decide_eq_true_iff]; omega),if_neg (by unfold opensK; rw [decide_eq_true_iff]; omega),if_pos hx] at h
 split at h
 ·exact absurd h (by decide)
 ·rename_i h1
  split at h
  ·exact absurd h (by decide)
  ·exact ⟨h1,by omega⟩
theorem mapped : ∀ (l : List Nd) (p : Pt) (r : List Pt),p.kind = 7 -> p.last ≠ 8 -> shapedL l = true -> Good (p :: r) -> allOk (p :: r) (flatL l) ->
 (∀ m ∈ l,m.k = 8) /\ (l.map fun m => m.t.data.toList).Nodup /\ (∀ m ∈ l,m.t.data.toList ∉ p.keys) /\ (p.keys.length <= 10 -> l.length + p.keys.length <= 10)
 | [],p,_,_,_,_,_,_ => by simp
 | n :: l,p,r,hp,hl8,hs,hg,ha => by
  simp only [shapedL,Bool.and_eq_true] at hs
  simp only [flatL] at ha
  have hb:=(allOk_append _ _ _).1 ha
  have h0:=head_ok hs.1 hb.1
  have hc:=(cont_of h0.1).2
  simp only [contB,hp] at hc
  rw [if_neg (by decide),if_pos trivial,if_neg hl8,decide_eq_true_iff] at hc
  have hk8 : n.k = 8:=by
   rcases hc with hc | hc
   ·exact hc
   ·have:=h0.2
    rw [hc] at this
    exact absurd this (by decide)
  have hk:=step_keys h0.1 (.inl hk8)
  have h1:=run_flat n p r hs.1 hg hb.1
  have hg2:=good_run hg (flat n)
  have haf : ∃ m,n.kids = [m]:=by
   cases n with
   | mk k t v kids =>
    simp only [Nd.k] at hk8
    subst hk8
    simp only [shaped,Bool.and_eq_true] at hs
    rcases gk_shape hs.1.1 rfl with ⟨_,h⟩ | ⟨h,_⟩
    ·exact h
    ·exact absurd rfl h
  obtain ⟨m,hm⟩:=haf
  have hmv : m.k ≠ 8:=by
   cases n with
   | mk k t v kids =>
    simp only [Nd.k] at hk8
    simp only [Nd.kids] at hm
    subst hk8 hm
    simp only [flat,allOk,flatL,List.append_nil] at hb
    have hb2:=((allOk_append _ _ _).1 hb.1.2).1
    have hst : stepS (p :: r) ⟨8,t,v⟩ = { p with last:=8,keys:=t.data.toList :: p.keys } :: r:=by
     unfold stepS; rw [if_pos hb.1.1]; simp [goS,opensK,endsK]
    rw [hst] at hb2
    simp only [shaped,shapedL,Bool.and_eq_true] at hs
    have h3:=head_ok hs.1.2.1 hb2
    have hc3:=(cont_of h3.1).2
    simp only [contB,hp] at hc3
    rw [if_neg (by decide),if_pos trivial,if_pos trivial] at hc3
    unfold valueK at hc3
    rw [decide_eq_true_iff] at hc3
    omega
  have hae : aft n p = { p with last:=m.k,keys:=n.t.data.toList :: p.keys }:=by
   exact aft_key _ hk8 hm
  rw [h1,hae] at hb hg2
  have ih:=mapped l _ r (by exact hp) (by exact hmv) hs.2 hg2 hb.2
  refine ⟨fun q hq => ?_,?_,fun q hq => ?_,fun hle => ?_⟩
  ·rcases List.mem_cons.1 hq with rfl | hq
   ·exact hk8
   ·exact ih.1 q hq
  ·rw [List.map_cons,List.nodup_cons]
   refine ⟨fun hx => ?_,ih.2.1⟩
   obtain ⟨q,hq,he⟩:=List.mem_map.1 hx
   exact ih.2.2.1 q hq (by rw [he]; exact List.mem_cons_self ..)
  ·rcases List.mem_cons.1 hq with rfl | hq
   ·exact hk.1
   ·exact fun hx => ih.2.2.1 q hq (List.mem_cons_of_mem _ hx)
  ·have:=ih.2.2.2 (by simp; omega)
   simp at this ⊢
   omega
theorem contents : ∀ (l : List Nd) (p : Pt) (r : List Pt),p.kind = 10 -> p.last ≠ 0 -> p.last ≠ 11 -> shapedL l = true -> Good (p :: r) -> allOk (p :: r) (flatL l) -> ∀ m ∈ l,m.k = 4 \/ m.k = 10
 | [],_,_,_,_,_,_,_,_,_,hm => by cases hm
 | n :: l,p,r,hp,hl0,hl11,hs,hg,ha,m,hm => by
  simp only [shapedL,Bool.and_eq_true] at hs
  simp only [flatL] at ha
  have hb:=(allOk_append _ _ _).1 ha
  have h0:=head_ok hs.1 hb.1
  have hc:=(cont_of h0.1).2
  have hn : n.k = 4 \/ n.k = 10:=by
   simp only [contB,hp] at hc
   rw [if_neg (by decide),if_neg (by decide),if_pos trivial] at hc
   unfold contElem at hc
   split at hc
   ·rw [decide_eq_true_iff] at hc; omega
   ·split at hc
    ·exact .inl ‹_›
    ·rw [decide_eq_true_iff] at hc
     rcases hc with hc | hc
     ·exact .inr hc
     ·have:=h0.2
      rw [hc] at this
      exact absurd this (by decide)
  rcases List.mem_cons.1 hm with rfl | hm
  ·exact hn
  ·have h1:=run_flat n p r hs.1 hg hb.1
   have hg2:=good_run hg (flat n)
   have hae : aft n p = { p with last:=n.k }:=by
    exact aft_val _ (by omega) (by omega)
   rw [h1,hae] at hb hg2
   exact contents l _ r (by exact hp) (by show n.k ≠ 0; omega) (by show n.k ≠ 11; omega) hs.2 hg2 hb.2 m hm
theorem parted : ∀ (l : List Nd) (p : Pt) (r : List Pt),p.kind = 10 -> (p.last = 0 \/ p.last = 11) -> p.keys.length <= 10 -> shapedL l = true -> Good (p :: r) -> allOk (p :: r) (flatL l) ->
 ∃ us cs,l = us ++ cs /\ (∀ m ∈ us,m.k = 11) /\ (∀ m ∈ cs,m.k = 4 \/ m.k = 10) /\ us.length + p.keys.length <= 10
 | [],p,_,_,_,hk,_,_,_ => ⟨[],[],rfl,by simp,by simp,by simpa using hk⟩
 | n :: l,p,r,hp,hl,hkl,hs,hg,ha => by
  have hs0:=hs
  have ha0:=ha
  simp only [shapedL,Bool.and_eq_true] at hs
  simp only [flatL] at ha
  have hb:=(allOk_append _ _ _).1 ha
  have h0:=head_ok hs.1 hb.1
  have h1:=run_flat n p r hs.1 hg hb.1
  have hg2:=good_run hg (flat n)
  by_cases h11 : n.k = 11
  ·have hk:=step_keys h0.1 (.inr h11)
   have hae : aft n p = { p with last:=11,keys:=n.t.data.toList :: p.keys }:=by
    exact aft_attr _ h11
   rw [h1,hae] at hb hg2
   obtain ⟨us,cs,rfl,i1,i2,i3⟩:=parted l _ r (by exact hp) (.inr rfl) (by simp; omega) hs.2 hg2 hb.2
   refine ⟨n :: us,cs,rfl,fun m hm => ?_,i2,by simp at i3 ⊢; omega⟩
   rcases List.mem_cons.1 hm with rfl | hm
   ·exact h11
   ·exact i1 m hm
  ·refine ⟨[],n :: l,rfl,by simp,?_,by simpa using hkl⟩
   have hc:=(cont_of h0.1).2
   have hn : n.k = 4 \/ n.k = 10:=by
    simp only [contB,hp] at hc
    rw [if_neg (by decide),if_neg (by decide),if_pos trivial] at hc
    unfold contElem at hc
    rw [if_neg h11] at hc
    split at hc
    ·exact .inl ‹_›
    ·rw [decide_eq_true_iff] at hc
     rcases hc with hc | hc
     ·exact .inr hc
     ·have:=h0.2
      rw [hc] at this
      exact absurd this (by decide)
   have hae : aft n p = { p with last:=n.k }:=by
    exact aft_val _ (by omega) (by omega)
   rw [h1,hae] at hb hg2
   intro m hm
   rcases List.mem_cons.1 hm with rfl | hm
   ·exact hn
   ·exact contents l _ r (by exact hp) (by show n.k ≠ 0; omega) (by show n.k ≠ 11; omega) hs.2 hg2 hb.2 m hm
mutual
theorem gram_of : ∀ (n : Nd) (p : Pt) (r : List Pt),shaped n = true -> Good (p :: r) -> allOk (p :: r) (flat n) -> gram n
 | .mk k t v kids,p,r,hs,hg,ha => by
  have hs0:=hs
  simp only [shaped,Bool.and_eq_true] at hs
  simp only [flat,allOk] at ha
  have hb:=((allOk_append _ _ _).1 ha.2).1
  have hg1:=good_step hg ⟨k,t,v⟩
  have he:=shape_head hs.1
  have hf:=(cont_of ha.1).1
  have hst : stepS (p :: r) ⟨k,t,v⟩ = goS (p :: r) ⟨k,t,v⟩:=by unfold stepS; rw [if_pos ha.1]
  rw [hst] at hb hg1
  cases ho : opensK k with
  | true =>
   have hgo : goS (p :: r) ⟨k,t,v⟩ = ⟨k,0,[]⟩ :: { p with last:=k } :: r:=by simp [goS,he,ho]
   rw [hgo] at hb hg1
   have hk:=opens_k ho
   refine ⟨⟨hf,hs.1,fun h => ?_,fun h => ?_,fun h => ?_⟩,gramL_of kids _ _ hs.2 hg1 hb⟩
   ·exact listed kids _ _ (show k = 5 by omega) hs.2 hg1 hb
   ·have:=mapped kids _ _ (show k = 7 from h) (show (0 : Int) ≠ 8 by decide) hs.2 hg1 hb
    exact ⟨this.1,this.2.1,by have:=this.2.2.2 (by simp); simpa using this⟩
   ·obtain ⟨us,cs,h1,h2,h3,h4⟩:=parted kids _ _ (show k = 10 from h) (.inl rfl) (by simp) hs.2 hg1 hb
    exact ⟨us,cs,h1,h2,h3,by simpa using h4⟩
  | false =>
   rcases gk_shape hs.1 ho with ⟨h8,m,hm⟩ | ⟨h8,hl,hm⟩
   ·subst h8 hm
    have hgo : goS (p :: r) ⟨8,t,v⟩ = { p with last:=8,keys:=t.data.toList :: p.keys } :: r:=by simp [goS,he,ho]
    rw [hgo] at hb hg1
    refine ⟨⟨hf,hs.1,fun _ => ?_,fun h => absurd h (by decide),fun h => absurd h (by decide)⟩,gramL_of [m] _ _ hs.2 hg1 hb⟩
    intro q hq
    rw [List.mem_singleton] at hq
    subst hq
    have hs2:=hs.2
    simp only [shapedL,Bool.and_eq_true] at hs2
    simp only [flatL,List.append_nil] at hb
    have hc:=(cont_of (head_ok hs2.1 hb).1).2
    have hc0:=(cont_of ha.1).2
    simp only [contB] at hc hc0
    by_cases h5 : p.kind = 5
    ·rw [if_pos h5] at hc0
     simp [valueK] at hc0
    rw [if_neg h5] at hc0 hc
    by_cases h7 : p.kind = 7
    ·rw [if_pos h7] at hc
     exact hc
    rw [if_neg h7] at hc0 hc
    by_cases h10 : p.kind = 10
    ·rw [if_pos h10] at hc0
     simp [contElem] at hc0
    rw [if_neg h10] at hc0
    simp [valueK] at hc0
   ·subst hm
    unfold opensK at ho
    rw [decide_eq_false_iff_not] at ho
    exact ⟨⟨hf,hs.1,by simp,fun h => absurd h (by omega),fun h => absurd h (by omega)⟩,trivial⟩
theorem gramL_of : ∀ (l : List Nd) (p : Pt) (r : List Pt),shapedL l = true -> Good (p :: r) -> allOk (p :: r) (flatL l) -> gramL l
 | [],_,_,_,_,_ => trivial
 | n :: l,p,r,hs,hg,ha => by
  simp only [shapedL,Bool.and_eq_true] at hs
  simp only [flatL] at ha
  have hb:=(allOk_append _ _ _).1 ha
  have h1:=run_flat n p r hs.1 hg hb.1
  have hg2:=good_run hg (flat n)
  rw [h1] at hb hg2
  exact ⟨gram_of n p r hs.1 hg hb.1,gramL_of l (aft n p) r hs.2 hg2 hb.2⟩
end
theorem may_gram {n : Nd} (h : mayN n = 0) : gram n:=by
 obtain ⟨hs,ha⟩:=may_shaped h
 exact gram_of n topP [] hs good_start ha
theorem may_value {n : Nd} (h : mayN n = 0) : valueK n.k = true:=by
 obtain ⟨hs,ha⟩:=may_shaped h
 have hc:=(cont_of (head_ok hs ha).1).2
 simp only [contB,topP] at hc
 rw [if_neg (by decide),if_neg (by decide),if_neg (by decide),Bool.and_eq_true] at hc
 exact hc.2
theorem gram.shape {n : Nd} (h : gram n) : okShape n.k n.kids.length = true:=h.head.2.1
theorem gram.leaf {n : Nd} (h : gram n) (hk : n.k ≠ 5 /\ n.k ≠ 7 /\ n.k ≠ 8 /\ n.k ≠ 10) : n.kids = []:=by
 have hs:=h.shape
 unfold okShape opensK at hs
 rw [decide_eq_false (by omega),decide_eq_false (p:=n.k = 8) (by omega)] at hs
 simp only [Bool.false_or,Bool.false_and,Bool.or_false,Bool.and_eq_true,decide_eq_true_iff] at hs
 exact List.eq_nil_of_length_eq_zero hs.2
theorem gram.key {n : Nd} (h : gram n) (hk : n.k = 8) : ∃ m,n.kids = [m] /\ valueK m.k = true /\ gram m:=by
 have hs:=h.shape
 rw [hk] at hs
 have h1 : n.kids.length = 1:=by simpa [okShape,opensK,leafK] using hs
 obtain ⟨m,hm⟩:=List.length_eq_one_iff.1 h1
 exact ⟨m,hm,h.head.2.2.1 (.inr hk) m (by rw [hm]; simp),h.kid (by rw [hm]; simp)⟩
end Go.Proofs.YtbnppjmmlfncmaaGreatDoor
