/-
  inkbrace's reference: Print.
  carry: whether a text is raw, the program's.
  carry: isRaw, by way of the library's ContainsFunc.
  slices.Index and slices.Contains at strings.
  carry: the namespaces of an element's names.
  carry's reference: raw, space.
  carry: the program's search and the reference's come to the same (pure): brace, angle, delim, outline.
-/
import Derived.Test.YtbnppjmmlfncmaaGreatDoorIsA07
import Derived.Test.YtbnppjmmlfncmaaGreatDoorIsA37
import Derived.Test.YtbnppjmmlfncmaaGreatDoorIsA09
import Derived.Test.YtbnppjmmlfncmaaGreatDoorIsA20
import Derived.Test.YtbnppjmmlfncmaaGreatDoorIsA08
import Derived.Lib.OthersKept
import Derived.Lib.TrimU
import Derived.Lib.SpaceUEq
import Derived.Deep.LoopGhost
import Derived.Test.YtbnppjmmlfncmaaGreatDoorIsA01
import Derived.Test.YtbnppjmmlfncmaaGreatDoorIsA05
import Derived.Test.YtbnppjmmlfncmaaGreatDoorIsA14
import Derived.BigQuiet
import Derived.Test.YtbnppjmmlfncmaaGreatDoorIsA10
import Derived.Test.YtbnppjmmlfncmaaGreatDoorIsA21
import Derived.Test.YtbnppjmmlfncmaaGreatDoorIsA24
set_option maxRecDepth 1000000
set_option linter.unusedSimpArgs false
set_option linter.unusedVariables false
namespace Go.Proofs.YtbnppjmmlfncmaaGreatDoor
open Go.RowKit Go.Maps
def InkRAt (n : Nd) : Prop:=∀ (S : Nat -> Nat -> Prop) (A : Option Addr) (c : Nat) (w : World),NAt S w n A c -> smallT n -> sizeN n * 1048900 <= 100000000000 ->
    Calls Tryz.prog 17 #[.agg #[.int .i64 n.k,.string n.t,.string n.v,.slice A n.kids.length c]] w fun e w' => e = .returned (.string ⟨(inkN n).toArray⟩) /\ Below w.heap.size w w'
set_option maxHeartbeats 16000000 in
theorem rink_any (n : Nd) : InkRAt n:=by
 induction n using Nd.ind with
 | h k t v l ih =>
  intro S A c w hA hsm hsz
  simp only [Nd.k,Nd.t,Nd.v,Nd.kids]
  obtain ⟨hts,hvs,hls⟩:=hsm
  obtain ⟨hlc,hcm,hkids⟩:=(NAt.def_ _ _ _).1 hA
  simp only [Nd.kids] at hlc hkids
  have hcm2 : c <= 9223372036854775807:=by simpa [maxLen] using hcm
  have hsz2 : (1 + sizeL l) * 1048900 <= 100000000000:=by simpa [sizeN] using hsz
  obtain ⟨W0,hW0⟩ : ∃ W0,w.alloc (.cells #[.int .i64 k,.string t,.string v,.slice A l.length c] 24) = W0:=⟨_,rfl⟩
  have al:=al_nd w #[.int .i64 k,.string t,.string v,.slice A l.length c]
  have hX:=Blk.new w 24 #[.int .i64 k,.string t,.string v,.slice A l.length c]
  rw [hW0] at al hX
  have HAL:=Lib.hid al
  have HX:=Lib.hid hX
  have HSL : Hid (∀ j,(inkL true (l.take j)).length <= sizeL (l.take j) * 1048900):=Lib.hid fun j => inkL_len _ (smallL_take l j hls) true
  have HSE : Hid (l.take l.length = l):=Lib.hid List.take_length
  have HST : Hid (∀ j (h : j < l.length),sizeL (l.take j) + sizeN (l.getD j dNd) <= sizeL l):=Lib.hid (sizeL_take l)
  have HSA : Hid (∀ j (h : j < l.length),inkL true (l.take (j + 1)) = inkL true (l.take j) ++ ((if true = true /\ j = 0 then [] else [44]) ++ inkN (l.getD j dNd))):=Lib.hid (ink_at l true)
  have HSM : Hid (∀ j (h : j < l.length),smallT (l.getD j dNd)):=Lib.hid fun j h => by
   rw [getDn h]
   exact smallL_mem.1 hls _ (List.getElem_mem h)
  have HIH : Hid (∀ j (h : j < l.length),InkRAt (l.getD j dNd)):=Lib.hid fun j h => by rw [getDn h]; exact ih _ (List.getElem_mem h)
  have HKD : Hid (0 < l.length -> ∃ b o,A = some ⟨b,o,none⟩ /\ S b o /\ ∀ (j : Nat) (h : j < l.length),KidAt S w b (o + j * 4) (l.getD j dNd)):=Lib.hid fun hp => by
   obtain ⟨b,o,h1,h2,h3⟩:=hkids hp
   exact ⟨b,o,h1,h2,fun j h => by rw [getDn h]; exact h3 j h⟩
  have hsl:=inkL_len l hls true
  have hl2 : (⟨#[44]⟩ : ByteArray).size = 1:=rfl
  have hl3 : (⟨#[58]⟩ : ByteArray).size = 1:=rfl
  have hl4 : (⟨#[91]⟩ : ByteArray).size = 1:=rfl
  have hl5 : (⟨#[93]⟩ : ByteArray).size = 1:=rfl
  have hl6 : (⟨#[123]⟩ : ByteArray).size = 1:=rfl
  have hl7 : (⟨#[125]⟩ : ByteArray).size = 1:=rfl
  have hpl:=prText_len t.data.toList
  have htl : t.data.toList.length = t.size:=by simp
  obtain ⟨L,hL⟩ : ∃ L,inkN (.mk k t v l) = L:=⟨_,rfl⟩
  rw [hL]
  have HL:=Lib.hid hL
  clear ih hA hkids al hX hL hls hsz
  go_enter Tryz.func17,Tryz.ntmps17
  go_wp2
  clear hW0
  go_loopw [3,4] (fun o i wr => ∃ j : Nat,j <= l.length /\ i = .int .i64 (j : Int) /\ o = .string ⟨(inkL true (l.take j)).toArray⟩ /\ Hid (Below W0.heap.size W0 wr)) (fun _ i _ => l.length - (intOf i).toNat)
  case atStart => exact ⟨0,Nat.zero_le _,rfl,rfl,Lib.hid (Below.refl _ _)⟩
  case round =>
   obtain ⟨j,hj,rfl,rfl,HW⟩:=hrel
   have hbw : Below w.heap.size w wr:=HAL.out.trans (HW.out.mono HAL.out.size)
   have hXw:=HX.out.below HW.out HX.out.lt
   have x3 : wr.cell? ⟨w.heap.size,3,none⟩ = some (.slice A l.length c):=hXw.cell 3
   have hsj:=HSL.out j
   by_cases hlt : j < l.length
   case pos =>
    obtain ⟨b,o,rfl,_,hkid⟩:=HKD.out (by omega)
    obtain ⟨B,cB,q0,q1,q2,q3,hn1⟩:=kid_cells (hkid j hlt) hbw
    have hjc : j < c:=by omega
    have hst:=HST.out j hlt
    have hsa:=HSA.out j hlt
    have hms:=HSM.out j hlt
    have hih:=HIH.out j hlt
    have hrl:=inkN_len _ hms
    clear hkid HSE HST HSA HSM HIH HSL HKD HL hXw hpl htl hsl
    unfold InkRAt at hih
    generalize l.getD j dNd = kd at *
    obtain ⟨P,hP⟩ : ∃ P,inkL true (l.take j) = P:=⟨_,rfl⟩
    have HN : Hid (∀ X,X = (if j = 0 then ([] : List UInt8) else [44]) -> inkL true (l.take (j + 1)) = P ++ X ++ inkN kd):=Lib.hid (by
     rintro X rfl
     rw [hsa,<- hP]
     simp [List.append_assoc])
    rw [hP] at hsj ⊢
    have hks : sizeN kd * 1048900 <= 100000000000:=Nat.le_trans (Nat.mul_le_mul_right _ (show sizeN kd <= 1 + sizeL l from Nat.le_trans (Nat.le_trans (Nat.le_add_left _ _) hst) (Nat.le_add_left _ _))) hsz2
    have hC:=hih S B cB wr hn1 hms hks
    have hPs : (⟨P.toArray⟩ : ByteArray).size <= 100000000000:=by rw [sizeOf_]; omega
    have hPs2 : (⟨(P ++ [44]).toArray⟩ : ByteArray).size <= 100000000002:=by rw [sizeOf_]; simp only [List.length_append,List.length_cons,List.length_nil]; omega
    have hKs : (⟨(inkN kd).toArray⟩ : ByteArray).size <= 100000000000:=by rw [sizeOf_]; omega
    have HC1:=Lib.hid (strCat P [44])
    have HC2:=Lib.hid (strCat P (inkN kd))
    have HC3:=Lib.hid (strCat (P ++ [44]) (inkN kd))
    generalize inkN kd = RK at *
    clear hsa hst hsj hP hih hn1 hms hrl
    by_cases hj0 : j = 0
    case pos =>
     have HZ:=Lib.hid (HN.out [] (by rw [if_pos hj0]))
     have hz : ¬ 0 < j:=by omega
     clear HN hj0
     go_wp2_with fail
     refine hC.mono ?_
     rintro e w3 ⟨rfl,hB3⟩
     have HB3:=Lib.hid (HW.out.trans (hB3.mono HW.out.size))
     clear hB3 hC
     go_wp2
     go_roundw
     case rel => exact ⟨j + 1,by omega,by go_num,by rw [HZ.out,List.append_nil,<- HC2.out],HB3⟩
     case measure => first | (simp [intOf]; done) | (simp [intOf]; omega)
    case neg =>
     have HZ:=Lib.hid (HN.out [44] (by rw [if_neg hj0]))
     have hz : 0 < j:=by omega
     clear HN hj0
     go_wp2_with fail
     refine hC.mono ?_
     rintro e w3 ⟨rfl,hB3⟩
     have HB3:=Lib.hid (HW.out.trans (hB3.mono HW.out.size))
     clear hB3 hC
     rw [HC1.out]
     go_wp2
     go_roundw
     case rel => exact ⟨j + 1,by omega,by go_num,by rw [HZ.out,<- HC3.out],HB3⟩
     case measure => first | (simp [intOf]; done) | (simp [intOf]; omega)
   case neg =>
    obtain rfl : j = l.length:=by omega
    have hse:=HSE.out
    rw [hse] at hsj ⊢
    have HBW:=Lib.hid hbw
    have x0 : wr.cell? ⟨w.heap.size,0,none⟩ = some (.int .i64 k):=hXw.cell 0
    have x1 : wr.cell? ⟨w.heap.size,1,none⟩ = some (.string t):=hXw.cell 1
    have hL:=HL.out
    have hSs : (⟨(inkL true l).toArray⟩ : ByteArray).size <= 100000000000:=by rw [sizeOf_]; omega
    have hP:=Qt.rprint_any t wr (by omega)
    unfold Qt.PrintEnd at hP
    have hXl:=hXw
    clear HSE HST HSA HSM HIH HSL HKD HL hXw hse
    have hX3 : ∀ w3,Below wr.heap.size wr w3 -> w3.cell? ⟨w.heap.size,0,none⟩ = some (.int .i64 k) /\ w3.cell? ⟨w.heap.size,1,none⟩ = some (.string t):=fun w3 h => ⟨(hXl.below h hXl.lt).cell 0,(hXl.below h hXl.lt).cell 1⟩
    clear hXl hbw
    generalize Qt.prErr t.data.toList = E at *
    obtain ⟨X,hX⟩ : ∃ X,Qt.prText t.data.toList = X:=⟨_,rfl⟩
    rw [hX] at hP hpl
    go_wp2_with fail
    refine hP.mono ?_
    rintro e w3 ⟨rfl,hB3⟩
    obtain ⟨y0,y1⟩:=hX3 w3 hB3
    have HB3:=Lib.hid (HBW.out.trans (hB3.mono HBW.out.size))
    clear hB3 hP hX3 x0 x1
    by_cases h1 : k = 1
    ·subst h1
     rw [inkN_1] at hL
     subst hL
     go_wp2
     go_ret
     exact ⟨rfl,HB3.out⟩
    by_cases h4 : k = 4
    ·subst h4
     rw [inkN_4,hX] at hL
     subst hL
     go_wp2
     go_ret
     exact ⟨rfl,HB3.out⟩
    by_cases h5 : k = 5
    ·subst h5
     rw [inkN_5] at hL
     have HC1:=Lib.hid (strCat [91] (inkL true l))
     have HC2:=Lib.hid (strCat ([91] ++ inkL true l) [93])
     have hPs2 : (⟨([91] ++ inkL true l).toArray⟩ : ByteArray).size <= 100000000002:=by rw [sizeOf_]; simp only [List.length_append,List.length_cons,List.length_nil]; omega
     have HL:=Lib.hid hL
     clear hL hX
     generalize inkL true l = SQ at *
     have HL2 : Hid ([91] ++ SQ ++ [93] = L):=Lib.hid (by rw [<- HL.out]; simp)
     go_wp2
     go_ret
     refine ⟨?_,HB3.out⟩
     rw [<- HL2.out,<- HC2.out,<- HC1.out] <;> rfl
    by_cases h7 : k = 7
    ·subst h7
     rw [inkN_7] at hL
     have HC1:=Lib.hid (strCat [123] (inkL true l))
     have HC2:=Lib.hid (strCat ([123] ++ inkL true l) [125])
     have hPs2 : (⟨([123] ++ inkL true l).toArray⟩ : ByteArray).size <= 100000000002:=by rw [sizeOf_]; simp only [List.length_append,List.length_cons,List.length_nil]; omega
     have HL:=Lib.hid hL
     clear hL hX
     generalize inkL true l = SQ at *
     have HL2 : Hid ([123] ++ SQ ++ [125] = L):=Lib.hid (by rw [<- HL.out]; simp)
     go_wp2
     go_ret
     refine ⟨?_,HB3.out⟩
     rw [<- HL2.out,<- HC2.out,<- HC1.out] <;> rfl
    by_cases h8 : k = 8
    ·subst h8
     rw [inkN_8,hX] at hL
     have HC1:=Lib.hid (strCat X [58])
     have HC2:=Lib.hid (strCat (X ++ [58]) (inkL true l))
     have hPs1 : (⟨X.toArray⟩ : ByteArray).size <= 100000000002:=by rw [sizeOf_]; omega
     have hPs2 : (⟨(X ++ [58]).toArray⟩ : ByteArray).size <= 100000000002:=by rw [sizeOf_]; simp only [List.length_append,List.length_cons,List.length_nil]; omega
     have HL:=Lib.hid hL
     clear hL hX
     generalize inkL true l = SQ at *
     have HL2 : Hid (X ++ [58] ++ SQ = L):=Lib.hid (by rw [<- HL.out]; simp)
     go_wp2
     go_ret
     refine ⟨?_,HB3.out⟩
     rw [<- HL2.out,<- HC2.out,<- HC1.out] <;> rfl
    have z1:=ibeq h1
    have z4:=ibeq h4
    have z5:=ibeq h5
    have z7:=ibeq h7
    have z8:=ibeq h8
    rw [inkN_e t v l h1 h4 h5 h7 h8] at hL
    have HL:=Lib.hid hL
    clear h1 h4 h5 h7 h8 hL hX
    go_wp2
    go_ret
    exact ⟨by rw [<- HL.out] <;> rfl,HB3.out⟩
theorem lastN_snoc (way : List Nd) (n : Nd) : lastN (way ++ [n]) = n:=by simp [lastN]
theorem bindL_all : ∀ (us cs : List Nd) (acc : List (List UInt8)),(∀ m ∈ us,m.k = 11) -> (∀ m ∈ cs,m.k ≠ 11) -> bindL (us ++ cs) acc = bindR (us ++ cs) acc
 | [],cs,acc,_,h2 => by
  have hR : ∀ (cs : List Nd),(∀ m ∈ cs,m.k ≠ 11) -> bindR cs acc = acc:=by
   intro cs
   induction cs with
   | nil => intro _; rfl
   | cons m r ih =>
    intro h
    simp only [bindR]
    rw [if_pos (.inl (h m (List.mem_cons_self ..)))]
    exact ih fun q hq => h q (List.mem_cons_of_mem _ hq)
  rw [List.nil_append,hR cs h2]
  cases cs with
  | nil => rfl
  | cons m r => simp only [bindL]; rw [if_neg (h2 m (List.mem_cons_self ..))]
 | m :: us,cs,acc,h1,h2 => by
  have hm:=h1 m (List.mem_cons_self ..)
  simp only [List.cons_append,bindL,bindR]
  rw [if_pos hm]
  have he : (if spaceOf m.t = [] \/ spaceOf m.t ∈ acc then acc else acc ++ [spaceOf m.t]) = (if ¬ m.k = 11 \/ spaceOf m.t = [] then acc else if spaceOf m.t ∈ acc then acc else acc ++ [spaceOf m.t]):=by
   by_cases a : spaceOf m.t = []
   ·rw [if_pos (.inl a),if_pos (.inr a)]
   ·rw [if_neg (c:=¬ m.k = 11 \/ spaceOf m.t = []) (by rintro (h | h); exact h hm; exact a h)]
    by_cases b : spaceOf m.t ∈ acc
    ·rw [if_pos (.inr b),if_pos b]
    ·rw [if_neg (by rintro (h | h); exact a h; exact b h),if_neg b]
  rw [he]
  exact bindL_all us cs _ (fun q hq => h1 q (List.mem_cons_of_mem _ hq)) h2
theorem elem_parts {n : Nd} (hg : gram n) (hk : n.k = 10) : bindL n.kids [] = bindR n.kids [] /\ (n.kids.filter fun m => decide (m.k = 11)).length <= 10 /\ ∀ m ∈ n.kids,m.k = 11 \/ m.k = 4 \/ m.k = 10:=by
 obtain ⟨us,cs,h1,h2,h3,h4⟩:=hg.head.2.2.2.2 hk
 have hcs : ∀ m ∈ cs,m.k ≠ 11:=fun m hm => by have:=h3 m hm; omega
 rw [h1]
 refine ⟨bindL_all us cs [] h2 hcs,?_,fun m hm => ?_⟩
 ·rw [List.filter_append]
  have : cs.filter (fun m => decide (m.k = 11)) = []:=by rw [List.filter_eq_nil_iff]; intro m hm; simpa using hcs m hm
  rw [this,List.append_nil]
  exact Nat.le_trans (List.length_filter_le _ _) h4
 ·rcases List.mem_append.1 hm with hm | hm
  ·exact .inl (h2 m hm)
  ·exact .inr (h3 m hm)
def simA (s : Sr) (way : List Nd) (n : Nd) : Prop:=gram n /\ ((way = [] /\ s = .an0) \/ (way ≠ [] /\ s = .ane (spaceOf (lastN way).t) /\ (n.k = 11 \/ n.k = 4 \/ n.k = 10)))
theorem angle_bad {o : List UInt8} {n : Nd} (hg : gram n) (hk : n.k = 10) (way : List Nd) (ho : o = if way = [] then [] else spaceOf (lastN way).t) : decide (10 < needs o n) = !angleT way n:=by
 obtain ⟨h1,h2,_⟩:=elem_parts hg hk
 have hA : angleT way n = (decide ((bindR n.kids []).length + (if spaceOf n.t = (if way = [] then [] else spaceOf (lastN way).t) then 0 else 1) <= 10) && decide ((bindR n.kids []).length + (if spaceOf n.t = (if way = [] then [] else spaceOf (lastN way).t) then 0 else 1) + (n.kids.filter fun m => decide (m.k = 11)).length <= 20)):=by
  unfold angleT
  rw [if_neg (c:=way = [] /\ n.k ≠ 10) (fun h => h.2 hk),if_neg (c:=n.k = 4) (by omega),if_neg (c:=n.k = 11) (by omega)]
 rw [hA,<- h1,<- ho]
 unfold needs
 generalize (bindL n.kids []).length + (if spaceOf n.t = o then 0 else 1) = b at *
 by_cases hb : 10 < b
 ·rw [decide_eq_true hb,decide_eq_false (p:=b <= 10) (by omega)]; rfl
 ·rw [decide_eq_false hb,decide_eq_true (p:=b <= 10) (by omega),decide_eq_true (p:=_ <= 20) (by omega)]; rfl
theorem of_angle (n : Nd) (hg : gram n) : ofP 2 n = refP 2 n:=by
 unfold ofP refP
 refine sr_sim badS nextS _ _ simA ?_ ?_ n (startS 2) [] ⟨hg,.inl ⟨rfl,rfl⟩⟩
 ·rintro s way n ⟨hg,h⟩
  show badS s n = !angleT way n
  rcases h with ⟨rfl,rfl⟩ | ⟨hw,rfl,hk⟩
  ·by_cases hk : n.k = 10
   ·have:=angle_bad hg hk [] (o:=[]) rfl
    rw [<- this]
    simp [badS,hk]
   ·have : angleT [] n = false:=by unfold angleT; rw [if_pos ⟨rfl,hk⟩]
    rw [this]
    simp [badS,hk]
  ·rcases hk with hk | hk | hk
   ·have : angleT way n = (!decide (n.t.data.toList = xmlnsL) && rawL n.v.data.toList):=by unfold angleT; rw [if_neg (fun h => hw h.1),if_neg (by omega),if_pos hk]
    rw [this]
    simp only [badS]
    rw [if_pos hk]
    cases decide (n.t.data.toList = xmlnsL) <;> cases rawL n.v.data.toList <;> rfl
   ·have : angleT way n = rawL n.t.data.toList:=by unfold angleT; rw [if_neg (fun h => hw h.1),if_pos hk]
    rw [this]
    simp only [badS]
    rw [if_neg (by omega),if_pos hk]
   ·rw [<- angle_bad hg hk way (o:=spaceOf (lastN way).t) (by rw [if_neg hw])]
    simp only [badS]
    rw [if_neg (by omega),if_neg (by omega)]
 ·rintro s way n ⟨hg,h⟩ hb j hj
  have hm:=List.getElem_mem hj
  have h10 : n.k = 10:=by
   rcases h with ⟨rfl,rfl⟩ | ⟨hw,rfl,hk⟩
   ·simp [badS] at hb; exact hb.1
   ·rcases hk with hk | hk | hk
    iterate 2
     ·rw [hg.leaf ⟨by omega,by omega,by omega,by omega⟩] at hj; cases hj
    ·exact hk
  refine ⟨hg.kid hm,.inr ⟨by simp,?_,(elem_parts hg h10).2.2 _ hm⟩⟩
  rw [lastN_snoc]
  rcases h with ⟨rfl,rfl⟩ | ⟨hw,rfl,hk⟩ <;> rfl
theorem of_brace (n : Nd) : ofP 1 n = refP 1 n:=by
 unfold ofP refP
 refine sr_sim badS nextS _ _ (fun s _ _ => s = .brc) ?_ ?_ n (startS 1) [] rfl
 ·rintro s way n rfl
  show decide (n.k = 10) = !!decide (n.k = 10)
  rw [Bool.not_not]
 ·rintro s way n rfl _ j hj; rfl
theorem of_free (x : Int) (hx : x < 1 \/ 5 < x) (n : Nd) : ofP x n = refP x n:=by
 unfold ofP refP
 have hs : startS x = .free:=by unfold startS; repeat' rw [if_neg (by omega)]
 rw [hs]
 refine sr_sim badS nextS _ _ (fun s _ _ => s = .free) ?_ ?_ n .free [] rfl
 ·rintro s way n rfl
  have : tellsT x way n = true:=by unfold tellsT; repeat' rw [if_neg (by omega)]
  rw [this]
  rfl
 ·rintro s way n rfl _ j hj; rfl
def simD (s : Sr) (way : List Nd) (n : Nd) : Prop:=gram n /\ ((way = [] /\ s = .dl0) \/ (∃ a,way = [a] /\ s = .dl1 (a.kids.getD 0 dNd)) \/ (∃ a b,way = [a,b] /\ s = .dl2) \/ ∃ a b c,way = [a,b,c] /\ s = .dl3)
theorem same_len : ∀ (a b : List Nd),sameTexts a b = true -> a.length = b.length
 | [],[],_ => rfl
 | [],_ :: _,h => by simp [sameTexts] at h
 | _ :: _,[],h => by simp [sameTexts] at h
 | x :: r,y :: q,h => by
  simp only [sameTexts,Bool.and_eq_true] at h
  simp only [List.length_cons,same_len r q h.2]
theorem row_same (n f : Nd) : rowB n f = (decide (n.k = 7) && (decide (0 < n.kids.length) && (decide (n.kids.length <= 8) && sameTexts n.kids f.kids))):=by
 unfold rowB
 cases h : sameTexts n.kids f.kids with
 | true => rw [same_len _ _ h]
 | false => simp
theorem of_delim (n : Nd) (hg : gram n) : ofP 5 n = refP 5 n:=by
 unfold ofP refP
 refine sr_sim badS nextS _ _ simD ?_ ?_ n (startS 5) [] ⟨hg,.inl ⟨rfl,rfl⟩⟩
 ·rintro s way n ⟨hg,h⟩
  show badS s n = !delimT way n
  rcases h with ⟨rfl,rfl⟩ | ⟨a,rfl,rfl⟩ | ⟨a,b,rfl,rfl⟩ | ⟨a,b,c,rfl,rfl⟩
  ·rfl
  ·show (!rowB n _) = _
   rw [row_same]
   rfl
  ·rfl
  ·rfl
 ·rintro s way n ⟨hg,h⟩ hb j hj
  refine ⟨hg.kid (List.getElem_mem hj),?_⟩
  rcases h with ⟨rfl,rfl⟩ | ⟨a,rfl,rfl⟩ | ⟨a,b,rfl,rfl⟩ | ⟨a,b,c,rfl,rfl⟩
  ·exact .inr (.inl ⟨n,rfl,rfl⟩)
  ·exact .inr (.inr (.inl ⟨a,n,rfl,rfl⟩))
  ·exact .inr (.inr (.inr ⟨a,b,n,rfl,rfl⟩))
  ·have hk : n.k = 4:=by simp [badS] at hb; exact hb
   rw [hg.leaf ⟨by omega,by omega,by omega,by omega⟩] at hj
   cases hj
def aheadN (way : List Nd) : Nat:=if 0 < inN way then 2 * (inN way - 1) + (if (lastN way).k = 8 then wordN (lastN way) else 0) + 2 else 0
def simO (s : Sr) (way : List Nd) (n : Nd) : Prop:=(n.k ≠ 8 /\ s = .ot (aheadN way) (2 * inN way)) \/ (n.k = 8 /\ 0 < inN way /\ s = .ok_ (2 * (inN way - 1)))
theorem inN_snoc (way : List Nd) (n : Nd) : inN (way ++ [n]) = inN way + if n.k = 8 then 0 else 1:=by
 unfold inN
 rw [List.filter_append,List.length_append]
 by_cases h : n.k = 8 <;> simp [h]
theorem of_outline (n : Nd) (hk : n.k ≠ 8) (hg : gram n) : ofP 3 n = refP 3 n:=by
 unfold ofP refP
 refine sr_sim badS nextS _ _ (fun s way n => gram n /\ simO s way n) ?_ ?_ n (startS 3) [] ⟨hg,.inl ⟨hk,rfl⟩⟩
 ·rintro s way n ⟨hg,⟨hk,rfl⟩ | ⟨hk,hi,rfl⟩⟩
  ·show badS _ n = !outlT way n
   unfold outlT
   simp only [badS]
   by_cases h10 : n.k = 10
   ·rw [if_pos h10,decide_eq_true h10]; rfl
   ·rw [if_neg h10,if_neg hk,decide_eq_false h10,Bool.false_or]
    show decide (160 < lineN n (aheadN way)) = !decide (lineN n (aheadN way) <= 160)
    by_cases h : lineN n (aheadN way) <= 160
    ·rw [decide_eq_true h,decide_eq_false (by omega)]; rfl
    ·rw [decide_eq_false h,decide_eq_true (by omega)]; rfl
  ·show false = !outlT way n
   unfold outlT
   rw [if_neg (by omega),if_pos hk]
   rfl
 ·rintro s way n ⟨hg,⟨hk,rfl⟩ | ⟨hk,hi,rfl⟩⟩ hb j hj
  ·refine ⟨hg.kid (List.getElem_mem hj),?_⟩
   have hin:=inN_snoc way n
   rw [if_neg hk] at hin
   have hgd : n.kids.getD j dNd = n.kids[j]:=getDn hj
   by_cases h8 : (n.kids[j]).k = 8
   ·refine .inr ⟨h8,by omega,?_⟩
    show (if (n.kids.getD j dNd).k = 8 then Sr.ok_ (2 * inN way) else _) = _
    rw [hgd,if_pos h8,hin,Nat.add_sub_cancel]
   ·refine .inl ⟨h8,?_⟩
    show (if (n.kids.getD j dNd).k = 8 then _ else Sr.ot (2 * inN way + 2) (2 * inN way + 2)) = _
    rw [hgd,if_neg h8]
    unfold aheadN
    rw [lastN_snoc,if_neg hk,hin,if_pos (by omega)]
    congr 1
  ·obtain ⟨m,hm,hv,hgm⟩:=hg.key hk
   have hj0 : j = 0:=by rw [hm] at hj; simpa using hj
   subst hj0
   have he : n.kids[0] = m:=by simp [hm]
   refine ⟨hg.kid (List.getElem_mem hj),.inl ⟨?_,?_⟩⟩
   ·rw [he]
    intro h
    rw [h] at hv
    exact absurd hv (by decide)
   ·have hin:=inN_snoc way n
    rw [if_pos hk,Nat.add_zero] at hin
    show Sr.ot (2 * (inN way - 1) + wordN n + 2) (2 * (inN way - 1) + 2) = _
    unfold aheadN
    rw [lastN_snoc,if_pos hk,hin,if_pos hi]
    congr 1
    omega
end Go.Proofs.YtbnppjmmlfncmaaGreatDoor
