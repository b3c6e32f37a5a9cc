/-
  carry: the namespaces of an element's names.
  carry's reference: raw, space.
  carry: the program's search and the reference's come to the same (pure): brace, angle, delim, outline.
  carry: the program's search and the reference's come to the same (pure): sections.
-/
import Derived.Test.YtbnppjmmlfncmaaGreatDoorCsA30
import Derived.Test.YtbnppjmmlfncmaaGreatDoorCsA07
import Derived.Test.YtbnppjmmlfncmaaGreatDoorCsA29
import Derived.Test.YtbnppjmmlfncmaaGreatDoorCsA16
import Derived.Test.YtbnppjmmlfncmaaGreatDoorCsA28
set_option maxRecDepth 100000
set_option linter.unusedSimpArgs false
set_option linter.unusedVariables false
namespace Go.Proofs.YtbnppjmmlfncmaaGreatDoor
open Go.RowKit Go.Maps
theorem Tryz.infoStrC : (Tryz.prog.info? 9).map (fun i => (i.zero,i.size,i.bytes)) = some (some (.string ⟨#[]⟩),1,16):=by kernel_rfl
theorem cut_space (t : ByteArray) : ∃ (b : ByteArray) (f : Bool),CutEnd t.data.toList = .returned (.tuple #[.string ⟨(spaceOf t).toArray⟩,.string b,.bool f]):=by
 unfold spaceOf
 cases h : cutL t.data.toList with
 | none => exact ⟨_,_,cutEnd_none h⟩
 | some p => exact ⟨_,_,cutEnd_some (a:=p.1) (b:=p.2) h⟩
theorem cspace_any (s : ByteArray) (w : World) (hs : s.size <= 140737488355328) :
 Calls Tryz.prog 116 #[.string s] w fun e w' => e = .returned (.string ⟨(spaceOf s).toArray⟩) /\ Below w.heap.size w w':=by
 obtain ⟨b,f,hE⟩:=cut_space s
 have HE:=Lib.hid hE
 generalize spaceOf s = R at *
 clear hE
 go_enter Tryz.func116,Tryz.ntmps116
 go_wp2_with (go_at_call 111; refine (cut_any s _ hs).mono ?_; rintro e w1 ⟨he,hb1⟩; rw [HE.out] at he; subst he)
 go_ret
 exact ⟨rfl,hb1⟩
theorem bind_drop (l : List Nd) (j : Nat) (h : j < l.length) (acc : List (List UInt8)) :
 bindL (l.drop j) acc = if (l.getD j dNd).k = 11 then bindL (l.drop (j + 1)) (if spaceOf (l.getD j dNd).t = [] \/ spaceOf (l.getD j dNd).t ∈ acc then acc else acc ++ [spaceOf (l.getD j dNd).t]) else acc:=by
 rw [List.drop_eq_getElem_cons h,<- getDn h]
 simp only [bindL]
set_option maxHeartbeats 4000000 in
theorem attrs_any (k : Int) (t v : ByteArray) (l : List Nd) (hts : ∀ m ∈ l,m.k = 11 -> m.t.size <= 1000) (hll : l.length <= 100000) (S : Nat -> Nat -> Prop) (A : Option Addr) (c : Nat) (w : World) (hA : NAt S w (.mk k t v l) A c) :
 Calls Tryz.prog 117 #[.agg #[.int .i64 k,.string t,.string v,.slice A l.length c]] w fun e w' => e = .returned (.int .i64 ((bindL l []).length : Int)) /\ Below w.heap.size w w':=by
 obtain ⟨hlc,hcm,hkids⟩:=(NAt.def_ _ _ _).1 hA
 simp only [Nd.kids] at hlc hkids
 have hcm2 : c <= 9223372036854775807:=by simpa [maxLen] using hcm
 have HT : Hid (∀ j (h : j < l.length),(l.getD j dNd).k = 11 -> (l.getD j dNd).t.size <= 1000):=Lib.hid fun j h => by rw [getDn h]; exact hts _ (List.getElem_mem h)
 have HKD : Hid (0 < l.length -> ∃ b o,A = some ⟨b,o,none⟩ /\ S b o /\ ∀ (j : Nat) (h : j < l.length),KidAt S w b (o + j * 4) (l.getD j dNd)):=Lib.hid fun hp => by
  obtain ⟨b,o,h1,h2,h3⟩:=hkids hp
  exact ⟨b,o,h1,h2,fun j h => by rw [getDn h]; exact h3 j h⟩
 have HST : Hid _:=Lib.hid (bind_drop l)
 have HSE : Hid (∀ acc,bindL (l.drop l.length) acc = acc):=Lib.hid fun acc => by rw [List.drop_length]; rfl
 obtain ⟨R,hR⟩ : ∃ R,bindL l [] = R:=⟨_,rfl⟩
 have HR0 : Hid (bindL (l.drop 0) [] = R):=Lib.hid (by rw [List.drop_zero]; exact hR)
 rw [hR]
 have al:=al_nd w #[.int .i64 k,.string t,.string v,.slice A l.length c]
 have hX:=Blk.new w 24 #[.int .i64 k,.string t,.string v,.slice A l.length c]
 have hlt0:=hX.lt
 obtain ⟨x0,x1,x2,x3⟩:=nbox (n:=.mk k t v l) hX
 simp only [Nd.k,Nd.t,Nd.v,Nd.kids] at x0 x1 x2 x3
 obtain ⟨W0,hW0⟩ : ∃ W0,w.alloc (.cells #[.int .i64 k,.string t,.string v,.slice A l.length c] 24) = W0:=⟨_,rfl⟩
 rw [hW0] at al x0 x1 x2 x3 hlt0
 have HAL:=Lib.hid al
 clear hts hA hkids al hX hR
 go_enter Tryz.func117,Tryz.ntmps117
 go_wp2
 clear hW0
 clear x0 x1 x2 x3 hlt0
 go_loopw [3,10] (fun cv i wr => ∃ (j : Nat) (acc : List (List UInt8)),j <= l.length /\ i = .int .i64 (j : Int) /\ acc.length <= j /\ Hid (bindL (l.drop j) acc = R) /\ Hid (ORow wr W0.heap.size 9 cv (acc.map strV)) /\ Hid (Below W0.heap.size W0 wr)) (fun _ i _ => l.length - (intOf i).toNat)
 case atStart => exact ⟨0,[],Nat.zero_le _,rfl,Nat.zero_le _,HR0,Lib.hid (ORow.nil _ _ _),Lib.hid (Below.refl _ _)⟩
 case round =>
  obtain ⟨j,acc,hj,rfl,hacc,HP,HO,HW⟩:=hrel
  have hbw : Below w.heap.size w wr:=HAL.out.trans (HW.out.mono HAL.out.size)
  have hss:=HW.out.size
  obtain ⟨cA,cC,hcv⟩:=HO.out.shapeP (n:=acc.length) (by simp)
  subst hcv
  by_cases hlt : j < l.length
  case pos =>
   obtain ⟨b,o,rfl,_,hkid⟩:=HKD.out (by omega)
   obtain ⟨B,cB,q0,q1,q2,q3,hn1⟩:=kid_cells (hkid j hlt) hbw
   have hjc : j < c:=by omega
   have hst:=HST.out j hlt acc
   rw [HP.out] at hst
   have hsz:=HT.out j hlt
   clear hkid HST HSE HT HKD HP HR0
   generalize l.getD j dNd = kd at *
   by_cases h11 : kd.k = 11
   case pos =>
    rw [if_pos h11] at hst
    have hsp:=fun w => cspace_any kd.t w (Nat.le_trans (hsz h11) (by decide))
    rw [h11] at q0
    clear h11 hsz hn1
    generalize spaceOf kd.t = own at *
    have HS:=Lib.hid hst
    clear hst
    have HBW:=Lib.hid hbw
    have h63 : (acc.map strV).length + 1 <= maxLen:=by simp only [List.length_map,maxLen]; omega
    have h16 : ((acc.map strV).length + 1) * 16 <= 140737488355328:=by simp only [List.length_map]; omega
    have hrow : ∀ w1,Below wr.heap.size wr w1 -> ORow w1 W0.heap.size 9 (.slice cA acc.length cC) (acc.map strV):=fun w1 hb => HO.out.below hb (fun g hg => (World.ownsRow.lt HO.out g hg).2)
    have HRW:=Lib.hid hrow
    clear hbw hrow
    by_cases h0 : own = []
    case pos =>
     subst h0
     have HS2 : Hid (bindL (l.drop (j + 1)) acc = R):=Lib.hid (by have:=HS.out; rw [if_pos (.inl rfl)] at this; exact this.symm)
     have hsp0 : ∀ w,Calls Tryz.prog 116 #[.string kd.t] w fun e w' => e = .returned (.string ⟨#[]⟩) /\ Below w.heap.size w w':=hsp
     clear hsp HS
     go_wp2_with fail
     refine (hsp0 _).mono ?_
     rintro e w1 ⟨rfl,hb1⟩
     have hbX : Below wr.heap.size wr w1:=((Below.refl _ wr).alloc (Nat.le_refl _) _).trans (hb1.mono (by simp))
     have HO1:=Lib.hid (HRW.out w1 hbX)
     have HW1:=Lib.hid (HW.out.trans (hbX.mono hss))
     clear hb1 hbX hsp0 HRW
     go_wp2
     go_roundw
     case rel => exact ⟨j + 1,acc,hlt,by go_num,by omega,HS2,HO1,HW1⟩
     case measure => first | (simp [intOf]; done) | (simp [intOf]; omega)
    case neg =>
     obtain ⟨n1,n2⟩:=str_neq (y:=[]) h0
     have t0 : (⟨([] : List UInt8).toArray⟩ : ByteArray).toList = []:=Lib.toList_data _
     rw [t0] at n1 n2
     have m1 : ((⟨own.toArray⟩ : ByteArray).toList == []) = false:=n1
     have m2 : ¬ (⟨own.toArray⟩ : ByteArray).toList = []:=n2
     clear n1 n2 t0
     have hcn : ∀ w',SRead w' (.slice cA acc.length cC) acc -> Calls Tryz.prog 151 #[.slice cA acc.length cC,.string ⟨own.toArray⟩] w' _:=fun w' h => scontains_any w' (.slice cA acc.length cC) acc own h (by omega)
     by_cases hm : own ∈ acc
     case pos =>
      have HS2 : Hid (bindL (l.drop (j + 1)) acc = R):=Lib.hid (by have:=HS.out; rw [if_pos (.inr hm)] at this; exact this.symm)
      rw [decide_eq_true hm] at hcn
      clear HS hm h0
      generalize (⟨own.toArray⟩ : ByteArray) = X at *
      go_wp2_with fail
      refine (hsp _).mono ?_
      rintro e w1 ⟨rfl,hb1⟩
      have hbX : Below wr.heap.size wr w1:=((Below.refl _ wr).alloc (Nat.le_refl _) _).trans (hb1.mono (by simp))
      have HO1:=Lib.hid (HRW.out w1 hbX)
      have HW1:=Lib.hid (HW.out.trans (hbX.mono hss))
      clear hb1 hbX hsp HRW
      go_wp2_with fail
      refine (hcn _ (ORow.sread HO1.out)).mono ?_
      rintro e w2 ⟨rfl,m,rfl⟩
      have HO2:=Lib.hid (HO1.out.drewN m)
      have HW2:=Lib.hid (below_drewN HW1.out m)
      clear hcn HO1 HW1
      go_wp2
      go_roundw
      case rel => exact ⟨j + 1,acc,hlt,by go_num,by omega,HS2,HO2,HW2⟩
      case measure => first | (simp [intOf]; done) | (simp [intOf]; omega)
     case neg =>
      have HS2 : Hid (bindL (l.drop (j + 1)) (acc ++ [own]) = R):=Lib.hid (by have:=HS.out; rw [if_neg (by rintro (h | h); exact h0 h; exact hm h)] at this; exact this.symm)
      rw [decide_eq_false hm] at hcn
      have HV : Hid (∀ w' v',ORow w' W0.heap.size 9 v' (acc.map strV ++ [.string ⟨own.toArray⟩]) -> ORow w' W0.heap.size 9 v' ((acc ++ [own]).map strV)):=Lib.hid fun w' v' h => by rw [List.map_append]; exact h
      clear HS hm h0
      generalize (⟨own.toArray⟩ : ByteArray) = X at *
      go_wp2_with fail
      refine (hsp _).mono ?_
      rintro e w1 ⟨rfl,hb1⟩
      have hbX : Below wr.heap.size wr w1:=((Below.refl _ wr).alloc (Nat.le_refl _) _).trans (hb1.mono (by simp))
      have HO1:=Lib.hid (HRW.out w1 hbX)
      have HW1:=Lib.hid (HW.out.trans (hbX.mono hss))
      clear hb1 hbX hsp HRW
      go_wp2_with fail
      refine (hcn _ (ORow.sread HO1.out)).mono ?_
      rintro e w2 ⟨rfl,m,rfl⟩
      obtain ⟨w3,hw3⟩ : ∃ w3,w1.drewN m = w3:=⟨_,rfl⟩
      have HO2:=Lib.hid (HO1.out.drewN m)
      have HW2:=Lib.hid (below_drewN HW1.out m)
      rw [hw3] at HO2 HW2 ⊢
      have hs3:=HW2.out.size
      clear hcn HO1 HW1 hw3
      go_wp2_with (first
       | (at_builtin; refine wp_app1b rfl _ _ 152 rfl W0.heap.size 9 (.string ⟨#[]⟩) 16 Tryz.underlying152 Tryz.infoStrC rfl (.slice cA acc.length cC) (acc.map strV) (.string X) rfl (by exact HO2.out) rfl 1 rfl h63 h16 hs3 ?_; intro v5 w5 hown5 hb5; have HO5:=Lib.hid (HV.out _ _ hown5); have HW5:=Lib.hid (HW2.out.trans hb5); clear HO2 HW2 hown5 hb5 hs3 HV))
      go_roundw
      case rel => exact ⟨j + 1,acc ++ [own],hlt,by go_num,by simp; omega,HS2,HO5,HW5⟩
      case measure => first | (simp [intOf]; done) | (simp [intOf]; omega)
   case neg =>
    rw [if_neg h11] at hst
    subst hst
    have HBW:=Lib.hid hbw
    clear hsz hn1 hbw
    go_wp2
    go_ret
    exact ⟨rfl,HBW.out.alloc (by have:=HBW.out.size; omega) _⟩
  case neg =>
   obtain rfl : j = l.length:=by omega
   have he:=HSE.out acc
   rw [HP.out] at he
   subst he
   have HBW:=Lib.hid hbw
   clear HST HSE HT HKD HP HR0 hbw
   go_wp2
   go_ret
   exact ⟨rfl,HBW.out⟩
theorem rspace15_any (s : ByteArray) (w : World) (hs : s.size <= 140737488355328) :
 Calls Tryz.prog 129 #[.string s] w fun e w' => e = .returned (.string ⟨(spaceOf s).toArray⟩) /\ Below w.heap.size w w':=by
 obtain ⟨b,f,hE⟩:=cut_space s
 have HE:=Lib.hid hE
 generalize spaceOf s = R at *
 clear hE
 go_enter Tryz.func129,Tryz.ntmps129
 go_wp2_with (go_at_call 156; refine (rcut_any s _ hs).mono ?_; rintro e w1 ⟨he,hb1⟩; rw [HE.out] at he; subst he)
 go_ret
 exact ⟨rfl,hb1⟩
theorem raw_snoc {s : ByteArray} {k : Nat} (h : k < s.size) (h1 : (s.data.toList.take k).all rawB = true) (h2 : rawB s[k] = true) : (s.data.toList.take (k + 1)).all rawB = true:=(all_snoc h h1).trans h2
theorem raw_break {s : ByteArray} {k : Nat} (h : k < s.size) (h2 : rawB s[k] = false) : rawL s.data.toList = false:=all_break (p:=rawB) h h2
theorem raw_cases (b : UInt8) : rawB b = false /\ (b.toNat : Int) < 32 /\ ¬ (b.toNat : Int) = 9 /\ ¬ (b.toNat : Int) = 10 /\ ¬ (b.toNat : Int) = 13 \/ rawB b = true /\ (¬ (b.toNat : Int) < 32 \/ (b.toNat : Int) = 9 \/ (b.toNat : Int) = 10 \/ (b.toNat : Int) = 13):=by
 rw [rawB_ctl]
 unfold ctlR
 by_cases h1 : b.toNat < 32
 ·by_cases h2 : b.toNat = 9
  ·right; simp [h2]
  ·by_cases h3 : b.toNat = 10
   ·right; simp [h3]
   ·by_cases h4 : b.toNat = 13
    ·right; simp [h4]
    ·left; simp [h1,h2,h3,h4]; omega
 ·right; simp [h1]; omega
set_option maxHeartbeats 2000000 in
theorem rraw_any (s : ByteArray) (w : World) (hm : s.size <= 140737488355328) :
 Calls Tryz.prog 128 #[.string s] w fun e w' => e = .returned (.bool (rawL s.data.toList)) /\ w' = w:=by
 go_enter Tryz.func128,Tryz.ntmps128
 go_wp2
 go_loop [3] (fun i => ∃ k : Nat,k <= s.size /\ i = .int .i64 k /\ Hid ((s.data.toList.take k).all rawB = true)) (fun i => s.size - (intOf i).toNat)
 case atStart => exact ⟨0,Nat.zero_le _,rfl,Lib.hid rfl⟩
 case round =>
  obtain ⟨k,hk,rfl,HK⟩:=hrel
  by_cases hlt : k < s.size
  ·have HB:=fun h => Lib.hid (raw_break hlt h)
   have HS:=fun h => Lib.hid (raw_snoc hlt HK.out h)
   rcases raw_cases s[k] with ⟨h0,h1,h2,h3,h4⟩ | ⟨h0,h1⟩
   ·have HB2:=HB h0
    clear HB HS h0
    have y2 : ((s[k].toNat : Int) != 9) = true:=by simpa using h2
    have y3 : ((s[k].toNat : Int) != 10) = true:=by simpa using h3
    have y4 : ((s[k].toNat : Int) != 13) = true:=by simpa using h4
    go_wp2
    go_ret
    exact ⟨by rw [HB2.out] <;> rfl,rfl⟩
   ·have HS2:=HS h0
    clear HB HS h0
    rcases h1 with h1 | h1 | h1 | h1 <;>
    ·go_wp2
     go_round
     case rel => exact ⟨k + 1,hlt,by go_num,HS2⟩
     case measure => first | (simp [intOf]; done) | (simp [intOf]; omega)
  ·obtain rfl : k = s.size:=by omega
   have hA:=HK.out
   rw [List.take_of_length_le (by simp)] at hA
   have HA:=Lib.hid (show rawL s.data.toList = true from hA)
   clear hA
   go_wp2
   go_ret
   exact ⟨by rw [HA.out] <;> rfl,rfl⟩
theorem lastN_snoc (way : List Nd) (n : Nd) : lastN (way ++ [n]) = n:=by simp [lastN]
theorem bindL_all : ∀ (us cs : List Nd) (acc : List (List UInt8)),(∀ m ∈ us,m.k = 11) -> (∀ m ∈ cs,m.k ≠ 11) -> bindL (us ++ cs) acc = bindR (us ++ cs) acc
 | [],cs,acc,_,h2 => by
  have hR : ∀ (cs : List Nd),(∀ m ∈ cs,m.k ≠ 11) -> bindR cs acc = acc:=by
   intro cs
   induction cs with
   | nil => intro _; rfl
   | cons m r ih =>
    intro h
    simp only [bindR]
    rw [if_pos (.inl (h m (List.mem_cons_self ..)))]
    exact ih fun q hq => h q (List.mem_cons_of_mem _ hq)
  rw [List.nil_append,hR cs h2]
  cases cs with
  | nil => rfl
  | cons m r => simp only [bindL]; rw [if_neg (h2 m (List.mem_cons_self ..))]
 | m :: us,cs,acc,h1,h2 => by
  have hm:=h1 m (List.mem_cons_self ..)
  simp only [List.cons_append,bindL,bindR]
  rw [if_pos hm]
  have he : (if spaceOf m.t = [] \/ spaceOf m.t ∈ acc then acc else acc ++ [spaceOf m.t]) = (if ¬ m.k = 11 \/ spaceOf m.t = [] then acc else if spaceOf m.t ∈ acc then acc else acc ++ [spaceOf m.t]):=by
   by_cases a : spaceOf m.t = []
   ·rw [if_pos (.inl a),if_pos (.inr a)]
   ·rw [if_neg (c:=¬ m.k = 11 \/ spaceOf m.t = []) (by rintro (h | h); exact h hm; exact a h)]
    by_cases b : spaceOf m.t ∈ acc
    ·rw [if_pos (.inr b),if_pos b]
    ·rw [if_neg (by rintro (h | h); exact a h; exact b h),if_neg b]
  rw [he]
  exact bindL_all us cs _ (fun q hq => h1 q (List.mem_cons_of_mem _ hq)) h2
theorem elem_parts {n : Nd} (hg : gram n) (hk : n.k = 10) : bindL n.kids [] = bindR n.kids [] /\ (n.kids.filter fun m => decide (m.k = 11)).length <= 10 /\ ∀ m ∈ n.kids,m.k = 11 \/ m.k = 4 \/ m.k = 10:=by
 obtain ⟨us,cs,h1,h2,h3,h4⟩:=hg.head.2.2.2.2 hk
 have hcs : ∀ m ∈ cs,m.k ≠ 11:=fun m hm => by have:=h3 m hm; omega
 rw [h1]
 refine ⟨bindL_all us cs [] h2 hcs,?_,fun m hm => ?_⟩
 ·rw [List.filter_append]
  have : cs.filter (fun m => decide (m.k = 11)) = []:=by rw [List.filter_eq_nil_iff]; intro m hm; simpa using hcs m hm
  rw [this,List.append_nil]
  exact Nat.le_trans (List.length_filter_le _ _) h4
 ·rcases List.mem_append.1 hm with hm | hm
  ·exact .inl (h2 m hm)
  ·exact .inr (h3 m hm)
def simA (s : Sr) (way : List Nd) (n : Nd) : Prop:=gram n /\ ((way = [] /\ s = .an0) \/ (way ≠ [] /\ s = .ane (spaceOf (lastN way).t) /\ (n.k = 11 \/ n.k = 4 \/ n.k = 10)))
theorem angle_bad {o : List UInt8} {n : Nd} (hg : gram n) (hk : n.k = 10) (way : List Nd) (ho : o = if way = [] then [] else spaceOf (lastN way).t) : decide (10 < needs o n) = !angleT way n:=by
 obtain ⟨h1,h2,_⟩:=elem_parts hg hk
 have hA : angleT way n = (decide ((bindR n.kids []).length + (if spaceOf n.t = (if way = [] then [] else spaceOf (lastN way).t) then 0 else 1) <= 10) && decide ((bindR n.kids []).length + (if spaceOf n.t = (if way = [] then [] else spaceOf (lastN way).t) then 0 else 1) + (n.kids.filter fun m => decide (m.k = 11)).length <= 20)):=by
  unfold angleT
  rw [if_neg (c:=way = [] /\ n.k ≠ 10) (fun h => h.2 hk),if_neg (c:=n.k = 4) (by omega),if_neg (c:=n.k = 11) (by omega)]
 rw [hA,<- h1,<- ho]
 unfold needs
 generalize (bindL n.kids []).length + (if spaceOf n.t = o then 0 else 1) = b at *
 by_cases hb : 10 < b
 ·rw [decide_eq_true hb,decide_eq_false (p:=b <= 10) (by omega)]; rfl
 ·rw [decide_eq_false hb,decide_eq_true (p:=b <= 10) (by omega),decide_eq_true (p:=_ <= 20) (by omega)]; rfl
theorem of_angle (n : Nd) (hg : gram n) : ofP 2 n = refP 2 n:=by
 unfold ofP refP
 refine sr_sim badS nextS _ _ simA ?_ ?_ n (startS 2) [] ⟨hg,.inl ⟨rfl,rfl⟩⟩
 ·rintro s way n ⟨hg,h⟩
  show badS s n = !angleT way n
  rcases h with ⟨rfl,rfl⟩ | ⟨hw,rfl,hk⟩
  ·by_cases hk : n.k = 10
   ·have:=angle_bad hg hk [] (o:=[]) rfl
    rw [<- this]
    simp [badS,hk]
   ·have : angleT [] n = false:=by unfold angleT; rw [if_pos ⟨rfl,hk⟩]
    rw [this]
    simp [badS,hk]
  ·rcases hk with hk | hk | hk
   ·have : angleT way n = (!decide (n.t.data.toList = xmlnsL) && rawL n.v.data.toList):=by unfold angleT; rw [if_neg (fun h => hw h.1),if_neg (by omega),if_pos hk]
    rw [this]
    simp only [badS]
    rw [if_pos hk]
    cases decide (n.t.data.toList = xmlnsL) <;> cases rawL n.v.data.toList <;> rfl
   ·have : angleT way n = rawL n.t.data.toList:=by unfold angleT; rw [if_neg (fun h => hw h.1),if_pos hk]
    rw [this]
    simp only [badS]
    rw [if_neg (by omega),if_pos hk]
   ·rw [<- angle_bad hg hk way (o:=spaceOf (lastN way).t) (by rw [if_neg hw])]
    simp only [badS]
    rw [if_neg (by omega),if_neg (by omega)]
 ·rintro s way n ⟨hg,h⟩ hb j hj
  have hm:=List.getElem_mem hj
  have h10 : n.k = 10:=by
   rcases h with ⟨rfl,rfl⟩ | ⟨hw,rfl,hk⟩
   ·simp [badS] at hb; exact hb.1
   ·rcases hk with hk | hk | hk
    iterate 2
     ·rw [hg.leaf ⟨by omega,by omega,by omega,by omega⟩] at hj; cases hj
    ·exact hk
  refine ⟨hg.kid hm,.inr ⟨by simp,?_,(elem_parts hg h10).2.2 _ hm⟩⟩
  rw [lastN_snoc]
  rcases h with ⟨rfl,rfl⟩ | ⟨hw,rfl,hk⟩ <;> rfl
theorem of_brace (n : Nd) : ofP 1 n = refP 1 n:=by
 unfold ofP refP
 refine sr_sim badS nextS _ _ (fun s _ _ => s = .brc) ?_ ?_ n (startS 1) [] rfl
 ·rintro s way n rfl
  show decide (n.k = 10) = !!decide (n.k = 10)
  rw [Bool.not_not]
 ·rintro s way n rfl _ j hj; rfl
theorem of_free (x : Int) (hx : x < 1 \/ 5 < x) (n : Nd) : ofP x n = refP x n:=by
 unfold ofP refP
 have hs : startS x = .free:=by unfold startS; repeat' rw [if_neg (by omega)]
 rw [hs]
 refine sr_sim badS nextS _ _ (fun s _ _ => s = .free) ?_ ?_ n .free [] rfl
 ·rintro s way n rfl
  have : tellsT x way n = true:=by unfold tellsT; repeat' rw [if_neg (by omega)]
  rw [this]
  rfl
 ·rintro s way n rfl _ j hj; rfl
def simD (s : Sr) (way : List Nd) (n : Nd) : Prop:=gram n /\ ((way = [] /\ s = .dl0) \/ (∃ a,way = [a] /\ s = .dl1 (a.kids.getD 0 dNd)) \/ (∃ a b,way = [a,b] /\ s = .dl2) \/ ∃ a b c,way = [a,b,c] /\ s = .dl3)
theorem same_len : ∀ (a b : List Nd),sameTexts a b = true -> a.length = b.length
 | [],[],_ => rfl
 | [],_ :: _,h => by simp [sameTexts] at h
 | _ :: _,[],h => by simp [sameTexts] at h
 | x :: r,y :: q,h => by
  simp only [sameTexts,Bool.and_eq_true] at h
  simp only [List.length_cons,same_len r q h.2]
theorem row_same (n f : Nd) : rowB n f = (decide (n.k = 7) && (decide (0 < n.kids.length) && (decide (n.kids.length <= 8) && sameTexts n.kids f.kids))):=by
 unfold rowB
 cases h : sameTexts n.kids f.kids with
 | true => rw [same_len _ _ h]
 | false => simp
theorem of_delim (n : Nd) (hg : gram n) : ofP 5 n = refP 5 n:=by
 unfold ofP refP
 refine sr_sim badS nextS _ _ simD ?_ ?_ n (startS 5) [] ⟨hg,.inl ⟨rfl,rfl⟩⟩
 ·rintro s way n ⟨hg,h⟩
  show badS s n = !delimT way n
  rcases h with ⟨rfl,rfl⟩ | ⟨a,rfl,rfl⟩ | ⟨a,b,rfl,rfl⟩ | ⟨a,b,c,rfl,rfl⟩
  ·rfl
  ·show (!rowB n _) = _
   rw [row_same]
   rfl
  ·rfl
  ·rfl
 ·rintro s way n ⟨hg,h⟩ hb j hj
  refine ⟨hg.kid (List.getElem_mem hj),?_⟩
  rcases h with ⟨rfl,rfl⟩ | ⟨a,rfl,rfl⟩ | ⟨a,b,rfl,rfl⟩ | ⟨a,b,c,rfl,rfl⟩
  ·exact .inr (.inl ⟨n,rfl,rfl⟩)
  ·exact .inr (.inr (.inl ⟨a,n,rfl,rfl⟩))
  ·exact .inr (.inr (.inr ⟨a,b,n,rfl,rfl⟩))
  ·have hk : n.k = 4:=by simp [badS] at hb; exact hb
   rw [hg.leaf ⟨by omega,by omega,by omega,by omega⟩] at hj
   cases hj
def aheadN (way : List Nd) : Nat:=if 0 < inN way then 2 * (inN way - 1) + (if (lastN way).k = 8 then wordN (lastN way) else 0) + 2 else 0
def simO (s : Sr) (way : List Nd) (n : Nd) : Prop:=(n.k ≠ 8 /\ s = .ot (aheadN way) (2 * inN way)) \/ (n.k = 8 /\ 0 < inN way /\ s = .ok_ (2 * (inN way - 1)))
theorem inN_snoc (way : List Nd) (n : Nd) : inN (way ++ [n]) = inN way + if n.k = 8 then 0 else 1:=by
 unfold inN
 rw [List.filter_append,List.length_append]
 by_cases h : n.k = 8 <;> simp [h]
theorem of_outline (n : Nd) (hk : n.k ≠ 8) (hg : gram n) : ofP 3 n = refP 3 n:=by
 unfold ofP refP
 refine sr_sim badS nextS _ _ (fun s way n => gram n /\ simO s way n) ?_ ?_ n (startS 3) [] ⟨hg,.inl ⟨hk,rfl⟩⟩
 ·rintro s way n ⟨hg,⟨hk,rfl⟩ | ⟨hk,hi,rfl⟩⟩
  ·show badS _ n = !outlT way n
   unfold outlT
   simp only [badS]
   by_cases h10 : n.k = 10
   ·rw [if_pos h10,decide_eq_true h10]; rfl
   ·rw [if_neg h10,if_neg hk,decide_eq_false h10,Bool.false_or]
    show decide (160 < lineN n (aheadN way)) = !decide (lineN n (aheadN way) <= 160)
    by_cases h : lineN n (aheadN way) <= 160
    ·rw [decide_eq_true h,decide_eq_false (by omega)]; rfl
    ·rw [decide_eq_false h,decide_eq_true (by omega)]; rfl
  ·show false = !outlT way n
   unfold outlT
   rw [if_neg (by omega),if_pos hk]
   rfl
 ·rintro s way n ⟨hg,⟨hk,rfl⟩ | ⟨hk,hi,rfl⟩⟩ hb j hj
  ·refine ⟨hg.kid (List.getElem_mem hj),?_⟩
   have hin:=inN_snoc way n
   rw [if_neg hk] at hin
   have hgd : n.kids.getD j dNd = n.kids[j]:=getDn hj
   by_cases h8 : (n.kids[j]).k = 8
   ·refine .inr ⟨h8,by omega,?_⟩
    show (if (n.kids.getD j dNd).k = 8 then Sr.ok_ (2 * inN way) else _) = _
    rw [hgd,if_pos h8,hin,Nat.add_sub_cancel]
   ·refine .inl ⟨h8,?_⟩
    show (if (n.kids.getD j dNd).k = 8 then _ else Sr.ot (2 * inN way + 2) (2 * inN way + 2)) = _
    rw [hgd,if_neg h8]
    unfold aheadN
    rw [lastN_snoc,if_neg hk,hin,if_pos (by omega)]
    congr 1
  ·obtain ⟨m,hm,hv,hgm⟩:=hg.key hk
   have hj0 : j = 0:=by rw [hm] at hj; simpa using hj
   subst hj0
   have he : n.kids[0] = m:=by simp [hm]
   refine ⟨hg.kid (List.getElem_mem hj),.inl ⟨?_,?_⟩⟩
   ·rw [he]
    intro h
    rw [h] at hv
    exact absurd hv (by decide)
   ·have hin:=inN_snoc way n
    rw [if_pos hk,Nat.add_zero] at hin
    show Sr.ot (2 * (inN way - 1) + wordN n + 2) (2 * (inN way - 1) + 2) = _
    unfold aheadN
    rw [lastN_snoc,if_pos hk,hin,if_pos hi]
    congr 1
    omega
def path2 (path : List UInt8) (f : Nd) : List UInt8:=(if path = [] then [] else path ++ [46]) ++ wordL f.t.data.toList
theorem tab_end : ∀ (path : List UInt8) (way : List Nd) (p : List UInt8),tabR path way = some p ->
 (∀ f v,rowsB (f.kids.getD 0 dNd) = false -> (f.kids.getD 0 dNd).k = 7 -> tabR path (way ++ [f,v]) = some (path2 p f)) /\
 (∀ f v m,rowsB (f.kids.getD 0 dNd) = true -> tabR path (way ++ [f,v,m]) = some (path2 p f)) /\
 (∀ f more,rowsB (f.kids.getD 0 dNd) = false -> (f.kids.getD 0 dNd).k ≠ 7 -> tabR path (way ++ f :: more) = none)
 | path,[],p,h => by simp [tabR] at h
 | path,[x],p,h => by
  simp only [tabR] at h
  injection h with h
  subst h
  refine ⟨fun f v h1 h2 => ?_,fun f v m h1 => ?_,fun f more h1 h2 => ?_⟩
  ·simp only [List.cons_append,List.nil_append,tabR]
   rw [h1,if_neg (by decide),if_pos h2]
   rfl
  ·simp only [List.cons_append,List.nil_append,tabR]
   rw [if_pos h1]
   rfl
  ·cases more with
   | nil => simp only [List.cons_append,List.nil_append,tabR]
   | cons v r =>
    simp only [List.cons_append,List.nil_append,tabR]
    rw [h1,if_neg (by decide),if_neg h2]
 | path,[x,y],p,h => by simp [tabR] at h
 | path,x :: f' :: v' :: rest,p,h => by
  simp only [tabR] at h
  by_cases hr : rowsB (f'.kids.getD 0 dNd) = true
  ·rw [if_pos hr] at h
   obtain ⟨i1,i2,i3⟩:=tab_end _ rest p h
   refine ⟨fun f v h1 h2 => ?_,fun f v m h1 => ?_,fun f more h1 h2 => ?_⟩
   ·simp only [List.cons_append,tabR]
    rw [if_pos hr]
    exact i1 f v h1 h2
   ·simp only [List.cons_append,tabR]
    rw [if_pos hr]
    exact i2 f v m h1
   ·simp only [List.cons_append,tabR]
    rw [if_pos hr]
    exact i3 f more h1 h2
  ·rw [if_neg hr] at h
   by_cases hk : (f'.kids.getD 0 dNd).k = 7
   ·rw [if_pos hk] at h
    obtain ⟨i1,i2,i3⟩:=tab_end _ (v' :: rest) p h
    refine ⟨fun f v h1 h2 => ?_,fun f v m h1 => ?_,fun f more h1 h2 => ?_⟩
    ·simp only [List.cons_append,tabR]
     rw [if_neg hr,if_pos hk]
     exact i1 f v h1 h2
    ·simp only [List.cons_append,tabR]
     rw [if_neg hr,if_pos hk]
     exact i2 f v m h1
    ·simp only [List.cons_append,tabR]
     rw [if_neg hr,if_pos hk]
     exact i3 f more h1 h2
   ·rw [if_neg hk] at h
    cases h
termination_by _ way => way.length
theorem gram.valid {n : Nd} (h : gram n) (hk : n.k = 8) : validL n.t.data.toList = true:=by
 have h1:=h.head.1
 unfold formedB bareK at h1
 rw [hk] at h1
 have h2:=(show _ /\ validL n.t.data.toList = true by simpa using h1).2
 exact h2
theorem word_ne (l : List UInt8) (hv : validL l = true) : wordL l ≠ []:=by
 unfold wordL
 split
 ·rename_i h
  intro h0
  rw [h0] at h
  exact absurd h.1 (by decide)
 ·unfold Qt.prText
  simp only [validL,Bool.and_eq_true,decide_eq_true_iff] at hv
  rw [if_pos hv.2,if_neg (by omega)]
  unfold Qt.printL
  simp
theorem path2_ne (path : List UInt8) {f : Nd} (hf : validL f.t.data.toList = true) : path2 path f ≠ []:=by
 unfold path2
 intro h
 exact word_ne _ hf (List.append_eq_nil_iff.1 h).2
theorem path2_len (path : List UInt8) (f : Nd) : (path2 path f).length = (if path = [] then 0 else path.length + 1) + wordN f:=by
 unfold path2 wordN
 rw [List.length_append]
 split <;> simp
def TabW (way : List Nd) (a : Nat) : Prop:=∃ path,(way.headD dNd).k = 7 /\ tabR [] way = some path /\ ((way.length = 1 /\ path = [] /\ a = 0) \/ (1 < way.length /\ path ≠ [] /\ a = path.length + 1))
theorem tab_head {way more : List Nd} (h : way ≠ []) : ((way ++ more).headD dNd) = way.headD dNd:=by
 cases way with
 | nil => exact absurd rfl h
 | cons => rfl
theorem tab_ne {way : List Nd} {a : Nat} (h : TabW way a) : way ≠ []:=by
 obtain ⟨path,_,h,_⟩:=h
 rintro rfl
 simp [tabR] at h
theorem tab_len {way : List Nd} {path : List UInt8} {a : Nat} {f : Nd} (h : (way.length = 1 /\ path = [] /\ a = 0) \/ (1 < way.length /\ path ≠ [] /\ a = path.length + 1)) : a + wordN f + 1 = (path2 path f).length + 1:=by
 rw [path2_len]
 rcases h with ⟨_,rfl,rfl⟩ | ⟨_,h,rfl⟩
 ·simp
 ·rw [if_neg h]
theorem tab_map {way : List Nd} {a : Nat} (h : TabW way a) (f v : Nd) (hf : validL f.t.data.toList = true) (h1 : rowsB (f.kids.getD 0 dNd) = false) (h2 : (f.kids.getD 0 dNd).k = 7) : TabW (way ++ [f,v]) (a + wordN f + 1):=by
 have hne:=tab_ne h
 obtain ⟨path,g1,g2,g3⟩:=h
 exact ⟨path2 path f,by rw [tab_head hne]; exact g1,(tab_end _ _ _ g2).1 f v h1 h2,.inr ⟨by simp,path2_ne _ hf,tab_len g3⟩⟩
theorem tab_rows {way : List Nd} {a : Nat} (h : TabW way a) (f v m : Nd) (hf : validL f.t.data.toList = true) (h1 : rowsB (f.kids.getD 0 dNd) = true) : TabW (way ++ [f,v,m]) (a + wordN f + 1):=by
 have hne:=tab_ne h
 obtain ⟨path,g1,g2,g3⟩:=h
 exact ⟨path2 path f,by rw [tab_head hne]; exact g1,(tab_end _ _ _ g2).2.1 f v m h1,.inr ⟨by simp,path2_ne _ hf,tab_len g3⟩⟩
def FlatW (way : List Nd) : Prop:=way ≠ [] /\ ∀ more,tabT (way ++ more) = none
theorem tab_flat {way : List Nd} {a : Nat} (h : TabW way a) (f : Nd) (h1 : rowsB (f.kids.getD 0 dNd) = false) (h2 : (f.kids.getD 0 dNd).k ≠ 7) : FlatW (way ++ [f]):=by
 have hne:=tab_ne h
 obtain ⟨path,g1,g2,g3⟩:=h
 refine ⟨by simp,fun more => ?_⟩
 rw [List.append_assoc]
 unfold tabT
 rw [tab_head hne,if_pos g1]
 exact (tab_end _ _ _ g2).2.2 f more h1 h2
theorem flat_more {way : List Nd} (h : FlatW way) (n : Nd) : FlatW (way ++ [n]):=⟨by simp,fun more => by rw [List.append_assoc]; exact h.2 _⟩
theorem brk_pos {n : Nd} : 0 < brk n ↔ (rowsB n = true \/ n.k = 7):=by
 unfold brk
 by_cases h : n.k = 7
 ·rw [if_pos h]; simp [h]
 ·rw [if_neg h]
  cases rowsB n <;> simp [h]
theorem rows_not7 {n : Nd} (h : rowsB n = true) : n.k = 5:=by
 unfold rowsB at h
 simp only [Bool.and_eq_true,decide_eq_true_iff] at h
 exact h.1
theorem rows_kids {n : Nd} (h : rowsB n = true) : ∀ m ∈ n.kids,m.k = 7:=by
 unfold rowsB at h
 simp only [Bool.and_eq_true,List.all_eq_true,decide_eq_true_iff] at h
 exact h.2.2
theorem flat_before : ∀ (l : List Nd) (j : Nat) (h : j < l.length),(l.map fun m => m.t.data.toList).Nodup -> flatBefore l[j] l = !(l.take j).any deepF
 | m :: r,0,h,hn => by simp [flatBefore]
 | m :: r,j + 1,h,hn => by
  simp only [List.map_cons,List.nodup_cons] at hn
  simp only [List.getElem_cons_succ,flatBefore,List.take_succ_cons,List.any_cons]
  have hne : ¬ m.t = (r[j]'(by simpa using h)).t:=by
   intro he
   refine hn.1 (List.mem_map.2 ⟨_,List.getElem_mem (by simpa using h),?_⟩)
   rw [he]
  rw [if_neg hne,flat_before r j (by simpa using h) hn.2]
  cases deepF m <;> simp
def simS (s : Sr) (way : List Nd) (n : Nd) : Prop:=gram n /\
 ((way = [] /\ s = .sc0 /\ n.k ≠ 8) \/
  (∃ a d,s = .scf a d /\ n.k = 8 /\ TabW way a /\ flatBefore n (lastN way).kids = !d) \/
  (∃ a f w0,s = .scr a /\ way = w0 ++ [f] /\ n = f.kids.getD 0 dNd /\ n.k ≠ 8 /\ (rowsB n = true \/ n.k = 7) /\ validL f.t.data.toList = true /\ ∃ a0,TabW w0 a0 /\ a = a0 + wordN f + 1) \/
  (∃ a,s = .sct a /\ n.k = 7 /\ way ≠ [] /\ TabW (way ++ [n]) a) \/
  (s = .scl /\ FlatW way))
theorem scf_kid {n : Nd} (hg : gram n) (hk : n.k = 7) (way : List Nd) (a : Nat) (hT : TabW (way ++ [n]) a) (j : Nat) (hj : j < n.kids.length) : simS (.scf a ((n.kids.take j).any deepF)) (way ++ [n]) n.kids[j]:=by
 obtain ⟨h1,h2,_⟩:=hg.head.2.2.2.1 hk
 refine ⟨hg.kid (List.getElem_mem hj),.inr (.inl ⟨a,_,rfl,h1 _ (List.getElem_mem hj),hT,?_⟩)⟩
 rw [lastN_snoc]
 exact flat_before _ _ hj h2
theorem sect_other (way : List Nd) (hw : way ≠ []) (n : Nd) (h8 : n.k ≠ 8) (h10 : n.k ≠ 10) (h1 : n.k ≠ 1) : sectT way n = true:=by
 unfold sectT
 rw [if_neg (by rintro (h | h | h); exact h10 h; exact h1 h; exact hw h.1),if_pos h8]
theorem of_sections (n : Nd) (hk : n.k ≠ 8) (hg : gram n) : ofP 4 n = refP 4 n:=by
 unfold ofP refP
 refine sr_sim badS nextS _ _ simS ?_ ?_ n (startS 4) [] ⟨hg,.inl ⟨rfl,rfl,hk⟩⟩
 ·rintro s way n ⟨hg,h⟩
  show badS s n = !sectT way n
  rcases h with ⟨rfl,rfl,h8⟩ | ⟨a,d,rfl,h8,hT,hfb⟩ | ⟨a,f,w0,rfl,rfl,hn,h8,hrk,hf,a0,hT,ha⟩ | ⟨a,rfl,h7,hw,hT⟩ | ⟨rfl,hF⟩
  ·unfold sectT
   simp only [badS]
   by_cases h7 : n.k = 7
   ·rw [if_neg (by rintro (h | h | h); omega; omega; exact h.2 h7),if_pos h8,decide_eq_true h7]
   ·rw [if_pos (.inr (.inr ⟨by trivial,h7⟩)),decide_eq_false h7]
  ·obtain ⟨path,g1,g2,g3⟩:=hT
   have hw : way ≠ []:=tab_ne ⟨path,g1,g2,g3⟩
   have hTT : tabT way = some path:=by unfold tabT; rw [if_pos g1]; exact g2
   unfold sectT
   rw [if_neg (by rintro (h | h | h); omega; omega; exact hw h.1),if_neg (by omega),hTT]
   simp only [badS]
   by_cases hb : 0 < brk (n.kids.getD 0 dNd)
   ·rw [if_pos hb,if_pos (show deepF n = true from decide_eq_true hb)]
    have ha : a = if path ≠ [] \/ 2 < way.length + 1 then path.length + 1 else 0:=by
     rcases g3 with ⟨q1,q2,q3⟩ | ⟨q1,q2,q3⟩
     ·rw [if_neg (by rintro (h | h); exact h q2; omega)]; exact q3
     ·rw [if_pos (.inl q2)]; exact q3
    rw [<- ha]
    have hbr : brk (n.kids.getD 0 dNd) = 2 + if rowsB (n.kids.getD 0 dNd) = true then 2 else 0:=by
     rcases brk_pos.1 hb with hr | h7
     ·unfold brk
      rw [if_neg (by have:=rows_not7 hr; omega),if_pos hr,if_pos hr]
     ·unfold brk
      rw [if_pos h7,if_neg (fun hr => by have:=rows_not7 hr; omega)]
    rw [hbr]
    by_cases h : wordN n + 2 + a + (if rowsB (n.kids.getD 0 dNd) = true then 2 else 0) <= 160
    ·rw [decide_eq_true h,decide_eq_false (by omega)]; rfl
    ·rw [decide_eq_false h,decide_eq_true (by omega)]; rfl
   ·rw [if_neg hb,if_neg (show ¬ deepF n = true from by unfold deepF; simpa using hb),hfb]
    by_cases h : (rowN n).length <= 160
    ·rw [decide_eq_true h,decide_eq_false (p:=160 < _) (by omega)]
     cases d <;> cases elemN n <;> rfl
    ·rw [decide_eq_false h,decide_eq_true (p:=160 < _) (by omega)]
     cases d <;> cases elemN n <;> rfl
  ·have h10 : n.k ≠ 10 /\ n.k ≠ 1:=by
    rcases hrk with hr | h7
    ·have:=rows_not7 hr; omega
    ·omega
   rw [sect_other _ (by simp) n h8 h10.1 h10.2]
   rfl
  ·rw [sect_other _ hw n (by omega) (by omega) (by omega)]
   rfl
  ·unfold sectT
   simp only [badS]
   by_cases h10 : n.k = 10
   ·rw [if_pos (.inl h10),decide_eq_true h10]; rfl
   by_cases h1 : n.k = 1
   ·rw [if_pos (.inr (.inl h1)),decide_eq_true h1,Bool.or_true]; rfl
   rw [if_neg (by rintro (h | h | h); exact h10 h; exact h1 h; exact hF.1 h.1),decide_eq_false h10,decide_eq_false h1]
   have:=hF.2 []
   rw [List.append_nil] at this
   by_cases h8 : n.k = 8
   ·rw [if_neg (by omega),this]; rfl
   ·rw [if_pos h8]; rfl
 ·rintro s way n ⟨hg,h⟩ hb j hj
  have hm:=List.getElem_mem hj
  rcases h with ⟨rfl,rfl,h8⟩ | ⟨a,d,rfl,h8,hT,hfb⟩ | ⟨a,f,w0,rfl,rfl,hn,h8,hrk,hf,a0,hT,ha⟩ | ⟨a,rfl,h7,hw,hT⟩ | ⟨rfl,hF⟩
  ·have h7 : n.k = 7:=by simp [badS] at hb; exact hb
   exact scf_kid hg h7 [] 0 ⟨[],h7,rfl,.inl ⟨rfl,rfl,rfl⟩⟩ j hj
  ·obtain ⟨m,hmm,hv,hgm⟩:=hg.key h8
   have hj0 : j = 0:=by rw [hmm] at hj; simpa using hj
   subst hj0
   have he : n.kids[0] = n.kids.getD 0 dNd:=(getDn hj).symm
   have he2 : n.kids[0] = m:=by simp [hmm]
   have hv8 : (n.kids[0]).k ≠ 8:=by rw [he2]; intro h; rw [h] at hv; exact absurd hv (by decide)
   refine ⟨hg.kid hm,?_⟩
   show _ \/ _
   by_cases hbr : 0 < brk (n.kids.getD 0 dNd)
   ·refine .inr (.inr (.inl ⟨a + wordN n + 1,n,way,?_,rfl,he,hv8,?_,hg.valid h8,a,hT,rfl⟩))
    ·show (if 0 < brk (n.kids.getD 0 dNd) then Sr.scr (a + wordN n + 1) else .scl) = _
     rw [if_pos hbr]
    ·rw [he]; exact brk_pos.1 hbr
   ·have hno : rowsB (n.kids.getD 0 dNd) = false /\ (n.kids.getD 0 dNd).k ≠ 7:=by
     constructor
     ·cases hr : rowsB (n.kids.getD 0 dNd) with
      | true => exact absurd (brk_pos.2 (.inl hr)) hbr
      | false => rfl
     ·exact fun h => hbr (brk_pos.2 (.inr h))
    refine .inr (.inr (.inr (.inr ⟨?_,tab_flat hT n hno.1 hno.2⟩)))
    show (if 0 < brk (n.kids.getD 0 dNd) then Sr.scr (a + wordN n + 1) else .scl) = _
    rw [if_neg hbr]
  ·subst ha
   by_cases h7 : n.k = 7
   ·have hT2 : TabW ((w0 ++ [f]) ++ [n]) (a0 + wordN f + 1):=by
     rw [List.append_assoc]
     refine tab_map hT f n hf ?_ (by rw [<- hn]; exact h7)
     rw [<- hn]
     cases hr : rowsB n with
     | true => have:=rows_not7 hr; omega
     | false => rfl
    have:=scf_kid hg h7 (w0 ++ [f]) _ hT2 j hj
    show simS (if n.k = 7 then _ else _) _ _
    rw [if_pos h7]
    exact this
   ·have hr : rowsB n = true:=by rcases hrk with h | h; exact h; exact absurd h h7
    refine ⟨hg.kid hm,.inr (.inr (.inr (.inl ⟨a0 + wordN f + 1,?_,rows_kids hr _ hm,by simp,?_⟩)))⟩
    ·show (if n.k = 7 then _ else Sr.sct (a0 + wordN f + 1)) = _
     rw [if_neg h7]
    ·rw [List.append_assoc,List.append_assoc]
     exact tab_rows hT f n _ hf (by rw [<- hn]; exact hr)
  ·exact scf_kid hg h7 way a hT j hj
  ·exact ⟨hg.kid hm,.inr (.inr (.inr (.inr ⟨rfl,flat_more hF n⟩)))⟩
theorem of_ref (x : Int) (n : Nd) (hg : gram n) (hk : n.k ≠ 8) : ofP x n = refP x n:=by
 by_cases h : x < 1 \/ 5 < x
 ·exact of_free x h n
 rcases (show x = 1 \/ x = 2 \/ x = 3 \/ x = 4 \/ x = 5 by omega) with rfl | rfl | rfl | rfl | rfl
 ·exact of_brace n
 ·exact of_angle n hg
 ·exact of_outline n hk hg
 ·exact of_sections n hk hg
 ·exact of_delim n hg
end Go.Proofs.YtbnppjmmlfncmaaGreatDoor
