/-
  inkbrace: what stands between two brackets; a value, a field.
  inkbrace: a value, a field.
  A region that draws its order and in which a call may fail.
  carry: the search of brace; what stands in a node, visited.
  inkbrace: Print.
-/
import Derived.Test.YtbnppjmmlfncmaaGreatDoorIsA20
import Derived.Test.YtbnppjmmlfncmaaGreatDoorIsA21
import Derived.Test.YtbnppjmmlfncmaaGreatDoorIsA19
set_option maxRecDepth 100000
set_option linter.unusedSimpArgs false
set_option linter.unusedVariables false
namespace Go.Proofs.YtbnppjmmlfncmaaGreatDoor
open Go.RowKit Go.Maps
def InkFn (g : FuncId) (n : Nd) : Prop:=∀ (B o : Nat) (xs : List UInt8) (A : Option Addr) (c : Nat) (w : World),BldAt w B o xs -> NAt (fun b _ => b < B) w n A c -> B <= w.heap.size -> xs.length + sizeN n * 1048900 <= 100000000000 ->
    Calls Tryz.prog g #[.pointer (some ⟨o,0,none⟩),.agg #[.int .i64 n.k,.string n.t,.string n.v,.slice A n.kids.length c]] w (OutPost B o w (xs ++ inkN n))
theorem BldAt.low {w w' : World} {B o : Nat} {l : List UInt8} (h : BldAt w B o l) (hb : Below w.heap.size w w') : BldAt w' B o l:=h.keep fun k ob _ hk _ _ _ => (hb.block k (by
 rcases Nat.lt_or_ge k w.heap.size with h | h
 ·exact h
 ·rw [Array.getElem?_eq_none h] at hk; cases hk)).trans hk
set_option maxHeartbeats 8000000 in
theorem iparts_any (g : FuncId) (hef : ∀ args w,(callFunc g args).run Tryz.prog w = .ok (.enter g args) w) (l : List Nd) (hv : ∀ n ∈ l,InkFn g n) (B o : Nat) (xs : List UInt8) (op cl : UInt8) (k : Int) (t v : ByteArray) (A : Option Addr) (c : Nat) (w : World) (h : BldAt w B o xs) (hA : NAt (fun b _ => b < B) w (.mk k t v l) A c) (hsm : smallL l)
 (hbase : B <= w.heap.size) (hsz : xs.length + (1 + sizeL l) * 1048900 <= 100000000000) :
 Calls Tryz.prog 55 #[.pointer (some ⟨o,0,none⟩),.int .u8 (op.toNat : Int),.slice A l.length c,.func (.func g) #[.pointer (some ⟨o,0,none⟩)] #[],.int .u8 (cl.toNat : Int)] w (OutPost B o w (xs ++ (op :: (inkL true l ++ [cl])))):=by
 obtain ⟨hlc,hcm,hkids⟩:=(NAt.def_ _ _ _).1 hA
 simp only [Nd.kids] at hlc hkids
 have hcm2 : c <= 9223372036854775807:=by simpa [maxLen] using hcm
 have HSL : Hid (∀ j,(inkL true (l.take j)).length <= sizeL (l.take j) * 1048900):=Lib.hid fun j => inkL_len _ (smallL_take l j hsm) true
 have HSE : Hid (l.take l.length = l):=Lib.hid List.take_length
 have HST : Hid (∀ j (h : j < l.length),sizeL (l.take j) + sizeN (l.getD j dNd) <= sizeL l):=Lib.hid (sizeL_take l)
 have HSA : Hid (∀ j (h : j < l.length),inkL true (l.take (j + 1)) = inkL true (l.take j) ++ ((if true = true /\ j = 0 then [] else [44]) ++ inkN (l.getD j dNd))):=Lib.hid (ink_at l true)
 have HA:=Lib.hid hA
 have HIH : Hid (∀ j (h : j < l.length),InkFn g (l.getD j dNd)):=Lib.hid fun j h => by rw [getDn h]; exact hv _ (List.getElem_mem h)
 have h1:=bbyte_any B o xs op w h (by omega) hbase
 unfold OutPost
 obtain ⟨L,hL⟩ : ∃ L,xs ++ (op :: (inkL true l ++ [cl])) = L:=⟨_,rfl⟩
 rw [hL]
 have HL:=Lib.hid hL
 clear hA hsm hkids hv h hL
 go_enter Tryz.func55,Tryz.ntmps55
 go_wp2_with fail
 refine h1.mono ?_
 rintro e w2 ⟨rfl,hB2,hb2,hk2⟩
 have HO2 : Hid (BldAt w2 B o (xs ++ op :: inkL true (l.take 0))):=Lib.hid (by simpa [inkL] using hB2)
 have HB2:=Lib.hid hb2
 have HK2:=Lib.hid hk2
 clear h1 hB2 hb2 hk2
 go_wp2
 go_loopw [19] (fun i wr => ∃ j : Nat,j <= l.length /\ i = .int .i64 (j : Int) /\ Hid (BldAt wr B o (xs ++ op :: inkL true (l.take j))) /\ Hid (Below B w wr) /\ Hid (KeepT w wr)) (fun i _ => l.length - (intOf i).toNat)
 case atStart => exact ⟨0,Nat.zero_le _,rfl,HO2,HB2,HK2⟩
 case round =>
  obtain ⟨j,hj,rfl,HO,HW,HT⟩:=hrel
  have hA':=HA.out.low (w':=wr) (fun q hq => HW.out.block q hq)
  obtain ⟨_,_,hkids⟩:=(NAt.def_ _ _ _).1 hA'
  simp only [Nd.kids] at hkids
  have hsj:=HSL.out j
  have hwl:=Nat.le_trans hbase HW.out.size
  by_cases hlt : j < l.length
  case pos =>
   obtain ⟨b,oo,rfl,hbo,hkid⟩:=hkids (by omega)
   have hk1:=hkid j hlt
   rw [<- getDn hlt] at hk1
   obtain ⟨BB,cB,q0,q1,q2,q3,hn1⟩:=hk1
   have hjc : j < c:=by omega
   have hst:=HST.out j hlt
   have hsa:=HSA.out j hlt
   have hih:=HIH.out j hlt
   clear hkid hkids hA' HSE HST HSA HIH HSL HO2 HB2
   unfold InkFn at hih
   generalize l.getD j dNd = kd at *
   obtain ⟨P,hP⟩ : ∃ P,xs ++ op :: inkL true (l.take j) = P:=⟨_,rfl⟩
   have hPl : P.length + sizeN kd * 1048900 + 1000 <= 100000000000:=by rw [<- hP]; simp only [List.length_append,List.length_cons]; omega
   have HN : Hid (∀ X,X = (if j = 0 then ([] : List UInt8) else [44]) -> xs ++ op :: inkL true (l.take (j + 1)) = (P ++ X) ++ inkN kd):=Lib.hid (by
    rintro X rfl
    rw [hsa,<- hP]
    simp [List.append_assoc])
   rw [hP] at HO
   clear hsa hst hsj hP
   have alk:=al_nd wr #[.int .i64 kd.k,.string kd.t,.string kd.v,.slice BB kd.kids.length cB]
   have bX:=Blk.new wr 24 #[.int .i64 kd.k,.string kd.t,.string kd.v,.slice BB kd.kids.length cB]
   have hO1:=HO.out.low alk
   have HNW:=Lib.hid (hn1.below alk)
   have hwa:=Nat.le_trans hwl alk.size
   obtain ⟨W1,hW1⟩ : ∃ W1,wr.alloc (.cells #[.int .i64 kd.k,.string kd.t,.string kd.v,.slice BB kd.kids.length cB] 24) = W1:=⟨_,rfl⟩
   rw [hW1] at alk bX hO1 HNW hwa
   have HAL:=Lib.hid (HW.out.trans (alk.mono hwl))
   have HAT:=Lib.hid (HT.out.trans (KeepT.of_below alk))
   by_cases hj0 : j = 0
   case pos =>
    have HZ:=Lib.hid (HN.out [] (by rw [if_pos hj0]))
    have hz : ¬ 0 < j:=by omega
    obtain ⟨x0,x1,x2,x3⟩:=nbox bX
    have hC:=hih B o P BB cB _ hO1 HNW.out hwa (by omega)
    clear HN hih bX hn1 hO1 hj0 alk
    go_wp2_with fail
    refine hC.mono ?_
    rintro e w3 ⟨rfl,hO3,hB3,hT3⟩
    have HB3:=Lib.hid (HAL.out.trans hB3)
    have HT3:=Lib.hid (HAT.out.trans hT3)
    clear hB3 hC hW1 hT3
    go_wp2
    go_roundw
    case rel => exact ⟨j + 1,by omega,by go_num,Lib.hid (by rw [HZ.out,List.append_nil]; exact hO3),HB3,HT3⟩
    case measure => first | (simp [intOf]; done) | (simp [intOf]; omega)
   case neg =>
    have HZ:=Lib.hid (HN.out [44] (by rw [if_neg hj0]))
    have hz : 0 < j:=by omega
    have hw1:=bbyte_any B o P 44 W1 hO1 (by omega) hwa
    have HX:=Lib.hid bX
    clear HN hj0 alk bX hn1 hO1
    go_wp2_with fail
    refine hw1.mono ?_
    rintro e w2 ⟨rfl,hO2,hb2,hk2⟩
    have HAL2:=Lib.hid (HAL.out.trans hb2)
    have HAT2:=Lib.hid (HAT.out.trans hk2)
    obtain ⟨x0,x1,x2,x3⟩:=nbox (HX.out.keepT hk2 (by decide) (by decide))
    have hC:=hih B o (P ++ [44]) BB cB w2 hO2 (HNW.out.low (fun q hq => hb2.block q hq)) (Nat.le_trans hwa hb2.size) (by simp only [List.length_append,List.length_cons,List.length_nil]; omega)
    clear hih hO2 hb2 hk2 hw1 hW1
    go_wp2_with fail
    refine hC.mono ?_
    rintro e w3 ⟨rfl,hO3,hB3,hT3⟩
    have HB3:=Lib.hid (HAL2.out.trans hB3)
    have HT3:=Lib.hid (HAT2.out.trans hT3)
    clear hB3 hC hT3
    go_wp2
    go_roundw
    case rel => exact ⟨j + 1,by omega,by go_num,Lib.hid (by rw [HZ.out]; exact hO3),HB3,HT3⟩
    case measure => first | (simp [intOf]; done) | (simp [intOf]; omega)
  case neg =>
   obtain rfl : j = l.length:=by omega
   have hse:=HSE.out
   rw [hse] at HO hsj
   clear hkids hA' hse
   have hlen : (xs ++ op :: inkL true l).length + 1000 <= 100000000000:=by
    simp only [List.length_append,List.length_cons]
    omega
   obtain ⟨P,hP⟩ : ∃ P,xs ++ op :: inkL true l = P:=⟨_,rfl⟩
   have HP : Hid (P ++ [cl] = L):=Lib.hid (by rw [<- HL.out,<- hP]; simp)
   rw [hP] at HO hlen
   clear hP
   have hw1:=bbyte_any B o P cl wr HO.out (by omega) hwl
   rw [HP.out] at hw1
   go_wp2_with fail
   refine hw1.mono ?_
   rintro e w2 ⟨rfl,hO2,hb2,hk2⟩
   have HB2:=Lib.hid (HW.out.trans hb2)
   have HK2:=Lib.hid (HT.out.trans hk2)
   clear hb2 hk2
   go_wp2
   go_end0
   exact ⟨rfl,hO2,HB2.out,HK2.out⟩
theorem ink_one (m : Nd) : inkL true [m] = inkN m:=by simp [inkL]
def ParAt (n : Nd) : Prop:=(n.k ≠ 8 -> InkFn 31 n) /\ (n.k = 8 -> InkFn 56 n)
set_option maxHeartbeats 8000000 in
theorem field_any (t v : ByteArray) (m : Nd) (hm : InkFn 31 m) (ht : t.size <= 1048576) : InkFn 56 (.mk 8 t v [m]):=by
 intro B o xs A c w h hA hB hsz
 have hsz2 : xs.length + (1 + sizeN m) * 1048900 <= 100000000000:=by simpa [sizeN,sizeL] using hsz
 simp only [Nd.k,Nd.t,Nd.v,Nd.kids]
 rw [inkN_8,ink_one]
 have alk:=al_nd w #[.int .i64 8,.string t,.string v,.slice A [m].length c]
 have bX:=Blk.new w 24 #[.int .i64 8,.string t,.string v,.slice A [m].length c]
 have hO1:=h.low alk
 have hwa:=Nat.le_trans hB alk.size
 have hA1:=hA.low (fun q hq => alk.block q (Nat.lt_of_lt_of_le hq hB))
 obtain ⟨W1,hW1⟩ : ∃ W1,w.alloc (.cells #[.int .i64 8,.string t,.string v,.slice A [m].length c] 24) = W1:=⟨_,rfl⟩
 simp only [List.length_cons,List.length_nil,Nat.zero_add] at hW1 alk bX hO1 hwa hA1 ⊢
 rw [hW1] at alk bX hO1 hwa hA1
 have hq:=oquoted_any B o xs t W1 hO1 (by omega) (by omega) hwa
 have x1 : W1.cell? ⟨w.heap.size,1,none⟩ = some (.string t):=bX.cell 1
 have HX:=Lib.hid bX
 have HAL:=Lib.hid (alk.mono hB)
 have HAT:=Lib.hid (KeepT.of_below alk)
 have hpl:=prText_len t.data.toList
 unfold OutPost at hq ⊢
 generalize Qt.prText t.data.toList = PT at *
 obtain ⟨L,hL⟩ : ∃ L,xs ++ (PT ++ ([58] ++ inkN m)) = L:=⟨_,rfl⟩
 rw [hL]
 have HL : Hid (xs ++ PT ++ [58] ++ inkN m = L):=Lib.hid (by rw [<- hL]; simp)
 clear hL alk bX hA h hO1 hsz
 go_enter Tryz.func56,Tryz.ntmps56
 go_wp2_with fail
 refine hq.mono ?_
 rintro e w2 ⟨rfl,hO2,hb2,hk2⟩
 have HB2:=Lib.hid (HAL.out.trans hb2)
 have HT2:=Lib.hid (HAT.out.trans hk2)
 have HX2:=Lib.hid (HX.out.keepT hk2 (by decide) (by decide))
 have hA2:=hA1.low (fun q hq => hb2.block q hq)
 have hwb:=Nat.le_trans hwa hb2.size
 have hc:=bbyte_any B o (xs ++ PT) 58 w2 hO2 (by simp only [List.length_append]; omega) hwb
 clear hb2 hk2 hA1 HX hq hW1 x1 HAL HAT hO2 hwa
 go_wp2_with fail
 refine hc.mono ?_
 rintro e w3 ⟨rfl,hO3,hb3,hk3⟩
 have HB3:=Lib.hid (HB2.out.trans hb3)
 have HT3:=Lib.hid (HT2.out.trans hk3)
 have hX3:=HX2.out.keepT hk3 (by decide) (by decide)
 have x3 : w3.cell? ⟨w.heap.size,3,none⟩ = some (.slice A 1 c):=hX3.cell 3
 have hA3:=hA2.low (fun q hq => hb3.block q hq)
 have hwc:=Nat.le_trans hwb hb3.size
 obtain ⟨hlc,hcm,hkids⟩:=(NAt.def_ _ _ _).1 hA3
 simp only [Nd.kids] at hlc hkids
 obtain ⟨b,oo,rfl,hbo,hkid⟩:=hkids (by simp)
 obtain ⟨BB,cB,q0,q1,q2,q3,hn1⟩:=hkid 0 (by simp)
 simp only [Nat.zero_mul,Nat.add_zero,List.getElem_cons_zero] at q0 q1 q2 q3 hn1
 have hlc1 : 1 <= c:=by simpa using hlc
 have hcm2 : c <= 9223372036854775807:=by simpa [maxLen] using hcm
 have hv:=hm B o (xs ++ PT ++ [58]) BB cB w3 hO3 hn1 hwc (by simp only [List.length_append,List.length_cons,List.length_nil]; omega)
 unfold OutPost at hv
 rw [HL.out] at hv
 clear hb3 hk3 hA2 hX3 HX2 hc hO3 hA3 hkids hkid hn1 HB2 HT2
 go_wp2_with fail
 refine hv.mono ?_
 rintro e w4 ⟨rfl,hO4,hb4,hk4⟩
 have HB4:=Lib.hid (HB3.out.trans hb4)
 have HT4:=Lib.hid (HT3.out.trans hk4)
 clear hb4 hk4
 go_wp2
 go_end0
 exact ⟨rfl,hO4,HB4.out,HT4.out⟩
set_option maxHeartbeats 8000000 in
theorem par_any (n : Nd) : gram n -> smallT n -> ParAt n:=by
 induction n using Nd.ind with
 | h k t v l ih =>
  intro hg hsm
  have hgh:=hg.head
  obtain ⟨hts,hvs,hls⟩:=id hsm
  refine ⟨fun h8 => ?_,fun h8 => ?_⟩
  ·simp only [Nd.k] at h8
   intro B o xs A c w h hA hB hsz
   have hsz2 : xs.length + (1 + sizeL l) * 1048900 <= 100000000000:=by simpa [sizeN] using hsz
   simp only [Nd.k,Nd.t,Nd.v,Nd.kids]
   have alk:=al_nd w #[.int .i64 k,.string t,.string v,.slice A l.length c]
   have bX:=Blk.new w 24 #[.int .i64 k,.string t,.string v,.slice A l.length c]
   have hO1:=h.low alk
   have hwa:=Nat.le_trans hB alk.size
   have hA1:=hA.low (fun q hq => alk.block q (Nat.lt_of_lt_of_le hq hB))
   have HAL:=Lib.hid (alk.mono hB)
   have HAT:=Lib.hid (KeepT.of_below alk)
   have x0 : (w.alloc (.cells #[.int .i64 k,.string t,.string v,.slice A l.length c] 24)).cell? ⟨w.heap.size,0,none⟩ = some (.int .i64 k):=bX.cell 0
   have x1 : (w.alloc (.cells #[.int .i64 k,.string t,.string v,.slice A l.length c] 24)).cell? ⟨w.heap.size,1,none⟩ = some (.string t):=bX.cell 1
   have x3 : (w.alloc (.cells #[.int .i64 k,.string t,.string v,.slice A l.length c] 24)).cell? ⟨w.heap.size,3,none⟩ = some (.slice A l.length c):=bX.cell 3
   obtain ⟨W1,hW1⟩ : ∃ W1,w.alloc (.cells #[.int .i64 k,.string t,.string v,.slice A l.length c] 24) = W1:=⟨_,rfl⟩
   rw [hW1] at hO1 hwa hA1 HAL HAT x0 x1 x3
   have hfin : ∀ L e w',OutPost B o W1 L e w' -> OutPost B o w L e w':=fun L e w' hh => ⟨hh.1,hh.2.1,HAL.out.trans hh.2.2.1,HAT.out.trans hh.2.2.2⟩
   have HF:=Lib.hid hfin
   obtain ⟨L,hL⟩ : ∃ L,xs ++ inkN (.mk k t v l) = L:=⟨_,rfl⟩
   rw [hL]
   by_cases h1 : k = 1
   ·subst h1
    rw [inkN_1] at hL
    have hw:=bstr_any B o xs ⟨#[110,117,108,108]⟩ W1 hO1 (show xs.length + 4 <= _ by omega) hwa
    rw [show (⟨#[110,117,108,108]⟩ : ByteArray).data.toList = [110,117,108,108] from rfl,hL] at hw
    clear ih hA alk bX h hg hgh hsm hls
    go_enter Tryz.func31,Tryz.ntmps31
    go_wp2_with fail
    refine hw.mono ?_
    rintro e w2 ⟨rfl,h2,hb2,hk2⟩
    have HP:=Lib.hid (HF.out L _ w2 ⟨rfl,h2,hb2,hk2⟩)
    clear hb2 hk2 h2
    go_wp2
    go_end0
    exact HP.out
   by_cases h4 : k = 4
   ·subst h4
    rw [inkN_4] at hL
    have hw:=oquoted_any B o xs t W1 hO1 (by omega) (by omega) hwa
    rw [hL] at hw
    clear ih hA alk bX h hg hgh hsm hls
    go_enter Tryz.func31,Tryz.ntmps31
    go_wp2_with fail
    refine hw.mono ?_
    intro e w2 hP
    have HP:=Lib.hid (HF.out L _ w2 hP)
    obtain ⟨rfl,_⟩:=hP
    go_wp2
    go_end0
    exact HP.out
   by_cases h5 : k = 5
   ·subst h5
    rw [inkN_5] at hL
    have hw:=iparts_any 31 (fun _ _ => rfl) l (fun m hm => (ih m hm (hg.kid hm) (smallL_mem.1 hls m hm)).1 (by have:=hgh.2.2.1 (.inl rfl) m hm; intro e; rw [e] at this; exact absurd this (by decide))) B o xs 91 93 5 t v A c W1 hO1 hA1 hls hwa hsz2
    rw [hL] at hw
    have e1 : ((91 : UInt8).toNat : Int) = 91:=rfl
    have e2 : ((93 : UInt8).toNat : Int) = 93:=rfl
    rw [e1,e2] at hw
    clear ih hA alk bX h hg hgh hsm hls hA1
    go_enter Tryz.func31,Tryz.ntmps31
    go_wp2_with fail
    refine hw.mono ?_
    intro e w2 hP
    have HP:=Lib.hid (HF.out L _ w2 hP)
    obtain ⟨rfl,_⟩:=hP
    go_wp2
    go_end0
    exact HP.out
   by_cases h7 : k = 7
   ·subst h7
    rw [inkN_7] at hL
    have hw:=iparts_any 56 (fun _ _ => rfl) l (fun m hm => (ih m hm (hg.kid hm) (smallL_mem.1 hls m hm)).2 ((hgh.2.2.2.1 rfl).1 m hm)) B o xs 123 125 7 t v A c W1 hO1 hA1 hls hwa hsz2
    rw [hL] at hw
    have e1 : ((123 : UInt8).toNat : Int) = 123:=rfl
    have e2 : ((125 : UInt8).toNat : Int) = 125:=rfl
    rw [e1,e2] at hw
    clear ih hA alk bX h hg hgh hsm hls hA1
    go_enter Tryz.func31,Tryz.ntmps31
    go_wp2_with fail
    refine hw.mono ?_
    intro e w2 hP
    have HP:=Lib.hid (HF.out L _ w2 hP)
    obtain ⟨rfl,_⟩:=hP
    go_wp2
    go_end0
    exact HP.out
   rw [inkN_e t v l h1 h4 h5 h7 h8] at hL
   have htl : t.data.toList.length = t.size:=by simp
   have hX1 : Blk W1 w.heap.size 24 #[.int .i64 k,.string t,.string v,.slice A l.length c]:=by rw [<- hW1]; exact bX
   have HW : Hid (∀ W',Below W1.heap.size W1 W' -> Calls Tryz.prog 53 #[.pointer (some ⟨o,0,none⟩),.string t] W' fun e w' => e = .returned (.tuple #[.int .i64 t.size,.nilIface]) /\ OutPost B o w L (.returned (.tuple #[])) w' /\ w'.cell? ⟨w.heap.size,1,none⟩ = some (.string t)):=Lib.hid fun W' hb => by
    have h5:=bstr_any B o xs t W' (hO1.low hb) (by omega) (Nat.le_trans hwa hb.size)
    rw [hL] at h5
    refine h5.mono ?_
    rintro e w2 ⟨rfl,h2,hb2,hk2⟩
    exact ⟨rfl,HF.out L _ w2 ⟨rfl,h2,(hb.mono hwa).trans hb2,(KeepT.of_below hb).trans hk2⟩,((hX1.below hb hX1.lt).keepT hk2 (by decide) (by decide)).cell 1⟩
   have z1:=ibeq h1
   have z4:=ibeq h4
   have z5:=ibeq h5
   have z7:=ibeq h7
   clear ih hA alk bX h hg hgh hsm hls hA1 hfin HF HAL HAT hX1 hL h1 h4 h5 h7 h8
   go_enter Tryz.func31,Tryz.ntmps31
   go_wp2
   go_region_held3 (fun w' => w'.cell? ⟨w.heap.size,1,none⟩ = some (.string t))
    (first
     | exact x1
     | exact y1
     | go_keep)
    (first
     | (go_at_call 53; refine (HW.out _ (below_drew (Below.refl _ _))).mono ?_; rintro e w2 ⟨rfl,hpo,y1⟩))
   go_wp2
   go_end0
   exact hpo
  ·simp only [Nd.k] at h8
   subst h8
   obtain ⟨m,hm,hv8,hgm⟩:=hg.key rfl
   simp only [Nd.kids] at hm
   subst hm
   refine field_any t v m ((ih m (by simp) hgm (smallL_mem.1 hls m (by simp))).1 ?_) hts
   intro e
   rw [e] at hv8
   exact absurd hv8 (by decide)
def ndVal (n : Nd) (A : Option Addr) (c : Nat) : Value:=.agg #[.int .i64 n.k,.string n.t,.string n.v,.slice A n.kids.length c]
def restS (st : Sr) (n : Nd) (j : Nat) : Option (List Nat):=srL badS nextS (n.kids.drop j) (nextS st n) j
theorem restS_at (st : Sr) (n : Nd) (j : Nat) (h : j < n.kids.length) : restS st n j = match srN badS nextS (n.kids.getD j dNd) (nextS st n j) with | some q => some (j :: q) | none => restS st n (j + 1):=by
 unfold restS
 rw [List.drop_eq_getElem_cons h,srL_cons,getDn h]
 rfl
theorem restS_end (st : Sr) (n : Nd) : restS st n n.kids.length = none:=by unfold restS; rw [List.drop_length,srL_nil]
theorem srN_good (st : Sr) (n : Nd) (h : badS st n = false) : srN badS nextS n st = restS st n 0:=by
 rw [srN_def,if_neg (by rw [h]; decide)]
 rfl
theorem srN_bad (st : Sr) (n : Nd) (h : badS st n = true) : srN badS nextS n st = some []:=by rw [srN_def,if_pos h]
theorem size_kid {l : List Nd} {j : Nat} (h : j < l.length) : 1 + sizeN (l.getD j dNd) <= 1 + sizeL l /\ l.length <= sizeL l:=by
 have h1:=sizeL_len l
 have h2 : sizeN (l.getD j dNd) <= sizeL l:=by
  rw [getDn h]
  clear h1
  induction l generalizing j with
  | nil => simp at h
  | cons n r ih =>
   cases j with
   | zero => simp [sizeL]
   | succ j =>
    have:=ih (j:=j) (by simpa using h)
    simp only [List.getElem_cons_succ,sizeL]
    omega
 omega
theorem kids_vis (st : Sr) (s : Nat) (path : List Nat) (gr : Option Nat) (n : Nd) (A : Option Addr) (c : Nat) (w : World) (hi : SI s w path gr) (hA : NAt (fun b _ => b < s) w n A c) (hlen : path.length + sizeN n <= 100000)
 (g : FuncId) (first cap : Array Value) (hef : ∀ args w,(callFunc g args).run Tryz.prog w = .ok (.enter g args) w)
 (hv : ∀ j (h : j < n.kids.length) w1 g1 B cB,SI s w1 (path ++ [j]) g1 -> FrS s gr w w1 g1 -> NAt (fun b _ => b < s) w1 (n.kids.getD j dNd) B cB -> (path ++ [j]).length + sizeN (n.kids.getD j dNd) <= 100000 ->
  Calls Tryz.prog g (first.push (ndVal (n.kids.getD j dNd) B cB) ++ cap) w1 (VPost s (path ++ [j]) g1 w1 (srN badS nextS (n.kids.getD j dNd) (nextS st n j)))) :
 Calls Tryz.prog 84 #[.pointer (some ⟨s,0,none⟩),ndVal n A c,.func (.func g) first cap] w (VPost s path gr w (restS st n 0)):=by
 obtain ⟨k,t,v,l⟩:=n
 have hsz : sizeN (.mk k t v l) = 1 + sizeL l:=by simp [sizeN]
 have hll:=sizeL_len l
 refine kids_any s path gr k t v l A c w hi hA (by omega) (by omega) g first cap hef (fun j m => srN badS nextS m (nextS st (.mk k t v l) j)) (restS st (.mk k t v l)) (fun j h => restS_at st (.mk k t v l) j h) (restS_end st (.mk k t v l)) ?_
 intro j h w1 g1 B cB h1 h2 h3
 have:=size_kid h
 exact hv j h w1 g1 B cB h1 h2 h3 (by simp only [List.length_append,List.length_cons,List.length_nil,Nd.kids]; omega)
def VisAt (f : FuncId) (more : Array Value) (st : Sr) (n : Nd) : Prop:=∀ (s : Nat) (path : List Nat) (g : Option Nat) (A : Option Addr) (c : Nat) (w : World),SI s w path g -> NAt (fun b _ => b < s) w n A c -> path.length + sizeN n <= 100000 ->
    Calls Tryz.prog f (#[.pointer (some ⟨s,0,none⟩),ndVal n A c] ++ more) w (VPost s path g w (srN badS nextS n st))
theorem vis_app (a b : Value) (more : Array Value) : (#[a].push b ++ more) = #[a,b] ++ more:=by simp
theorem VPost.cases_ {s : Nat} {path : List Nat} {g : Option Nat} {w : World} {r : Option (List Nat)} {e : Ending} {w' : World} (h : VPost s path g w r e w') :
 (r = none /\ e = .returned (.tuple #[]) /\ VPost s path g w r (.returned (.tuple #[])) w') \/ (∃ v,e = .panicked (foundP v) /\ VPost s path g w r (.panicked (foundP v)) w'):=by
 rcases h with ⟨h1,rfl,h3⟩ | ⟨q,v,h1,rfl,h3⟩
 ·exact .inl ⟨h1,rfl,.inl ⟨h1,rfl,h3⟩⟩
 ·exact .inr ⟨v,rfl,.inr ⟨q,v,h1,rfl,h3⟩⟩
set_option maxHeartbeats 4000000 in
theorem brace_vis (n : Nd) : VisAt 47 #[] .brc n:=by
 induction n using Nd.ind with
 | h k t v l ih =>
  intro s path g A c w hi hA hlen
  have al:=al_nd w #[.int .i64 k,.string t,.string v,.slice A l.length c]
  have hi1:=hi.below al
  have HF : Hid (FrS s g w _ g):=Lib.hid (FrS.of_below al)
  have HI:=Lib.hid hi
  obtain ⟨x0,x1,x2,x3⟩:=nbox (n:=.mk k t v l) (Blk.new w 24 #[.int .i64 k,.string t,.string v,.slice A l.length c])
  simp only [Nd.k,Nd.t,Nd.v,Nd.kids] at x0 x1 x2 x3
  by_cases hk : k = 10
  ·subst hk
   rw [srN_bad _ _ (by simp [badS,Nd.k])]
   have hR:=refuse_yes s path g _ hi1
   clear ih hA hi hi1
   unfold ndVal
   go_enter Tryz.func47,Tryz.ntmps47
   go_wp2_with fail
   refine hR.mono ?_
   rintro e w1 ⟨u,rfl,ho,hb⟩
   exact ⟨rfl,.inr ⟨[],u,rfl,rfl,by rw [List.append_nil]; exact ho,(HF.out.low HI.out).trans (hb.mono (Nat.le_of_lt (HI.out.below al).lt))⟩⟩
  ·rw [srN_good _ _ (by simp [badS,Nd.k,hk])]
   have z1:=ibeq hk
   have hR:=refuse_no s
   have hK:=kids_vis .brc s path g (.mk k t v l) A c _ hi1 (hA.low (fun q hq => al.block q (Nat.lt_trans hq hi.lt))) hlen 47 #[.pointer (some ⟨s,0,none⟩)] #[] (fun _ _ => rfl) (fun j h w1 g1 B cB h1 h2 h3 h4 => by
    have:=ih _ (List.getElem_mem h) s _ g1 B cB w1 h1 (by rw [<- getDn h]; exact h3) (by rw [<- getDn h]; exact h4)
    rw [<- getDn h] at this
    rw [vis_app]
    exact this)
   unfold ndVal at hK ⊢
   simp only [Nd.k,Nd.t,Nd.v,Nd.kids] at hK ⊢
   clear ih hA hi hi1 hk
   go_enter Tryz.func47,Tryz.ntmps47
   go_wp2_with fail
   refine (hR _).mono ?_
   rintro e w1 ⟨rfl,rfl⟩
   clear hR
   go_wp2_with fail
   refine hK.mono ?_
   intro e w1 h
   have h2:=VPost.pre HI.out HF.out h
   rcases h2.cases_ with ⟨_,rfl,h3⟩ | ⟨u,rfl,h3⟩
   ·clear h h2 hK
    go_wp2
    go_end0
    exact h3
   ·exact ⟨rfl,h3⟩
theorem ofP_brc (n : Nd) : ofP 1 n = srN badS nextS n .brc:=by unfold ofP startS; rw [if_pos rfl]
theorem root_brc (n : Nd) : RootAt 1 n (ofP 1 n):=by
 rw [ofP_brc]
 intro s path g A c w hi hA hl
 have al:=al_nd w #[.int .i64 n.k,.string n.t,.string n.v,.slice A n.kids.length c]
 have hi1:=hi.below al
 have HI:=Lib.hid hi
 have HF : Hid (FrS s g w _ g):=Lib.hid (FrS.of_below al)
 have hV : VisAt 47 #[] .brc n:=brace_vis n
 obtain ⟨x0,x1,x2,x3⟩:=nbox (Blk.new w 24 #[.int .i64 n.k,.string n.t,.string n.v,.slice A n.kids.length c])
 have hK:=hV s path g A c _ hi1 (hA.low (fun q hq => al.block q (Nat.lt_trans hq hi.lt))) hl
 unfold ndVal at hK
 simp only [List.append_toArray,List.cons_append,List.nil_append,Array.append_empty] at hK
 generalize srN badS nextS n .brc = R at *
 clear hi hi1 hA al hV
 go_enter Tryz.func29,Tryz.ntmps29
 go_wp2_with fail
 refine hK.mono ?_
 intro e w1 h
 have h2:=VPost.pre HI.out HF.out h
 rcases h2.cases_ with ⟨_,rfl,h3⟩ | ⟨u,rfl,h3⟩
 ·clear h h2 hK
  go_wp2
  go_end0
  exact h3
 ·exact ⟨rfl,h3⟩
theorem printL_ne {l : List UInt8} (hv : validL l = true) : Qt.prText l ≠ []:=by
 unfold Qt.prText
 simp only [validL,Bool.and_eq_true,decide_eq_true_iff] at hv
 rw [if_pos hv.2,if_neg (by omega)]
 unfold Qt.printL
 simp
theorem ink_ne {n : Nd} (hg : gram n) (hv : valueK n.k = true) (hk : n.k ≠ 10) : inkN n ≠ []:=by
 have h1:=hg.head.1
 obtain ⟨k,t,v,l⟩:=n
 simp only [Nd.k,Nd.t,Nd.v] at hv h1 hk
 have h2 : k = 1 \/ k = 2 \/ k = 3 \/ k = 4 \/ k = 5 \/ k = 7 \/ k = 10:=of_decide_eq_true hv
 unfold formedB bareK at h1
 rcases h2 with rfl | rfl | rfl | rfl | rfl | rfl | rfl
 ·rw [inkN_1]; simp
 ·rw [inkN_e _ _ _ (by decide) (by decide) (by decide) (by decide) (by decide)]
  have h3:=(show emptyT v = true /\ boolL t.data.toList = true by simpa using h1).2
  intro h0
  rw [h0] at h3
  exact absurd h3 (by decide)
 ·rw [inkN_e _ _ _ (by decide) (by decide) (by decide) (by decide) (by decide)]
  have h3:=(show emptyT v = true /\ normL t.data.toList = true by simpa using h1).2
  intro h0
  rw [h0] at h3
  exact absurd h3 (by decide +kernel)
 ·rw [inkN_4]
  exact printL_ne (show emptyT v = true /\ validL t.data.toList = true by simpa using h1).2
 ·rw [inkN_5]; simp
 ·rw [inkN_7]; simp
 ·exact absurd rfl hk
def prE (n : Nd) : Int:=if mayN n = 0 then (if (ofP 1 n).isSome = true then 20 else 0) else mayN n
def prP (n : Nd) : List Int:=if mayN n = 0 then iP ((ofP 1 n).getD []) else []
def prS (n : Nd) : List UInt8:=if prE n = 0 then inkN n else []
def PrPost (n : Nd) (w : World) (e : Ending) (w' : World) : Prop:=∃ v,e = .returned (.tuple #[.string ⟨(prS n).toArray⟩,v,.int .i64 (prE n)]) /\ IRead w' v (prP n) /\ Below w.heap.size w w'
theorem pr_none {n : Nd} (h : prE n = 0) : mayN n = 0 /\ ofP 1 n = none:=by
 unfold prE at h
 split at h
 ·refine ⟨‹_›,?_⟩
  split at h
  ·omega
  ·rename_i h2
   simpa using h2
 ·exact absurd h ‹_›
theorem prP_ok {n : Nd} (h : prE n = 0) : prP n = []:=by
 obtain ⟨h1,h2⟩:=pr_none h
 unfold prP
 rw [if_pos h1,h2]
 rfl
set_option maxHeartbeats 8000000 in
theorem inkprint_any (n : Nd) (A : Option Addr) (c : Nat) (w : World) (hw : Nm.StdW w) (hA : NAt (fun b _ => b < w.heap.size) w n A c) (ho : okT n) (hz : sizeN n <= 90000) (hsm : mayN n = 0 -> smallT n) :
 Calls Tryz.prog 16 #[.agg #[.int .i64 n.k,.string n.t,.string n.v,.slice A n.kids.length c]] w (PrPost n w):=by
 have alk:=al_nd w #[.int .i64 n.k,.string n.t,.string n.v,.slice A n.kids.length c]
 have bX:=Blk.new w 24 #[.int .i64 n.k,.string n.t,.string n.v,.slice A n.kids.length c]
 obtain ⟨W0,hW0⟩ : ∃ W0,w.alloc (.cells #[.int .i64 n.k,.string n.t,.string n.v,.slice A n.kids.length c] 24) = W0:=⟨_,rfl⟩
 rw [hW0] at alk bX
 have hA0:=hA.upp alk
 have hO:=of_gen 1 (by omega) n (ofP 1 n) (fun _ => root_brc n) A c W0 (hw.below alk) hA0 ho hz
 unfold OfPost at hO
 obtain ⟨x0,x1,x2,x3⟩:=nbox bX
 have HX:=Lib.hid bX
 have HB:=Lib.hid alk
 have HA:=Lib.hid hA0
 unfold PrPost
 have hO2 : Calls Tryz.prog 11 #[.int .i64 1,.agg #[.int .i64 n.k,.string n.t,.string n.v,.slice A n.kids.length c]] W0 (fun e w' => ∃ v,e = .returned (.tuple #[v,.int .i64 (prE n)]) /\ IRead w' v (prP n) /\ Below W0.heap.size W0 w'):=hO
 have HE:=fun h => @pr_none n h
 have HP:=fun h => @prP_ok n h
 have HS : Hid (prS n = if prE n = 0 then inkN n else []):=Lib.hid rfl
 obtain ⟨E,hE⟩ : ∃ E,prE n = E:=⟨_,rfl⟩
 obtain ⟨PP,hPP⟩ : ∃ PP,prP n = PP:=⟨_,rfl⟩
 rw [hE,hPP] at hO2
 rw [hE] at HE HS
 rw [hE,hPP] at HP
 rw [hE,hPP]
 by_cases h0 : E = 0
 case neg =>
  have z1:=ibne h0
  have z2:=ibeq h0
  rw [if_neg h0] at HS
  rw [HS.out]
  clear hA hA0 hO bX alk ho hE hPP HE HP h0 HS
  go_enter Tryz.func16,Tryz.ntmps16
  go_wp2_with fail
  refine hO2.mono ?_
  rintro e w1 ⟨v,rfl,hv,hb1⟩
  have HB1:=Lib.hid (HB.out.trans (hb1.mono HB.out.size))
  have HV:=Lib.hid hv
  clear hb1 hv hO2 hW0
  go_wp2
  go_ret3
  exact ⟨_,rfl,HV.out,HB1.out⟩
 case pos =>
  subst h0
  obtain ⟨hm,hof⟩:=HE rfl
  obtain rfl:=HP rfl
  rw [if_pos rfl] at HS
  rw [HS.out]
  have hg:=may_gram hm
  have hv8:=may_value hm
  have hsmall:=hsm hm
  have h8 : n.k ≠ 8:=fun e => by rw [e] at hv8; exact absurd hv8 (by decide)
  have h10 : n.k ≠ 10:=fun e => by
   rw [ofP_brc,srN_bad _ _ (by simp [badS,e])] at hof
   cases hof
  have hne:=ink_ne hg hv8 h10
  have hP:=(par_any n hg hsmall).1 h8
  have hzz : sizeN n * 1048900 <= 100000000000:=by omega
  clear hA hA0 hO bX alk ho hE hPP HE HP HS hm hof hg hv8 hsm h8 h10
  unfold InkFn at hP
  generalize inkN n = L at *
  go_enter Tryz.func16,Tryz.ntmps16
  go_wp2_with fail
  refine hO2.mono ?_
  rintro e w1 ⟨v,rfl,hv,hb1⟩
  have hX1:=HX.out.below hb1 HX.out.lt
  have HB1:=Lib.hid (HB.out.trans (hb1.mono HB.out.size))
  have hA1:=HA.out.upp hb1
  have hbw:=BldAt.new w1 w1.heap.size (Nat.le_refl _)
  have al2 : Below w1.heap.size w1 (w1.alloc (.cells #[.pointer none,.slice none 0 0] 60)):=(Below.refl _ _).alloc (Nat.le_refl _) _
  obtain ⟨x0,x1,x2,x3⟩:=nbox (hX1.below al2 hX1.lt)
  have hC:=hP w1.heap.size w1.heap.size [] A c _ hbw (hA1.below al2) al2.size (by simpa using hzz)
  rw [List.nil_append] at hC
  have HAL:=Lib.hid al2
  clear hb1 hv hO2 hW0 hX1 hA1 hbw al2 hP HX HA HB
  unfold OutPost at hC
  go_wp2_with fail
  refine hC.mono ?_
  rintro e w2 ⟨rfl,h2,hb2,_⟩
  have HB2:=Lib.hid (HB1.out.trans ((HAL.out.trans hb2).mono HB1.out.size))
  have hS:=bstring_any w1.heap.size w1.heap.size L w2 h2 hne
  have hs1:=HB1.out.size
  clear hb2 hC HAL
  go_wp2_with fail
  refine hS.mono ?_
  rintro e w3 ⟨rfl,hb3⟩
  have HB3:=Lib.hid (HB2.out.trans (hb3.mono hs1))
  clear hb3 hS
  go_wp2
  go_ret3
  exact ⟨_,rfl,IRead.nil _ _,HB3.out⟩
end Go.Proofs.YtbnppjmmlfncmaaGreatDoor
