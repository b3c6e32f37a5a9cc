/-
  carry's reference: Binds.
  A region that draws its order and in which a call may fail.
  carry: the search of brace; what stands in a node, visited.
  carry: the search of delim.
-/
import Derived.Test.YtbnppjmmlfncmaaGreatDoorCsA31
import Derived.Test.YtbnppjmmlfncmaaGreatDoorCsA15
import Derived.Test.YtbnppjmmlfncmaaGreatDoorCsA30
set_option maxRecDepth 100000
set_option linter.unusedSimpArgs false
set_option linter.unusedVariables false
namespace Go.Proofs.YtbnppjmmlfncmaaGreatDoor
open Go.RowKit Go.Maps
theorem bindR_drop (l : List Nd) (j : Nat) (h : j < l.length) (acc : List (List UInt8)) :
 bindR (l.drop j) acc = bindR (l.drop (j + 1)) (if ¬ (l.getD j dNd).k = 11 \/ spaceOf (l.getD j dNd).t = [] then acc else if spaceOf (l.getD j dNd).t ∈ acc then acc else acc ++ [spaceOf (l.getD j dNd).t]):=by
 rw [List.drop_eq_getElem_cons h,<- getDn h]
 simp only [bindR]
theorem take_mem (l : List (List UInt8)) (q : Nat) (h : q < l.length) (x : List UInt8) : decide (x ∈ l.take (q + 1)) = (decide (x ∈ l.take q) || decide (l[q] = x)):=by
 rw [List.take_succ_eq_append_getElem h,<- Bool.decide_or,decide_eq_decide,List.mem_append,List.mem_singleton,eq_comm (a:=x)]
set_option maxHeartbeats 4000000 in
theorem rbinds_any (k : Int) (t v : ByteArray) (l : List Nd) (hts : ∀ m ∈ l,m.t.size <= 1048576) (hll : l.length <= 100000) (S : Nat -> Nat -> Prop) (A : Option Addr) (c : Nat) (w : World) (hA : NAt S w (.mk k t v l) A c) :
 Calls Tryz.prog 130 #[.agg #[.int .i64 k,.string t,.string v,.slice A l.length c]] w fun e w' => ∃ A1 c1,e = .returned (.slice A1 (bindR l []).length c1) /\ Below w.heap.size w w':=by
 obtain ⟨hlc,hcm,hkids⟩:=(NAt.def_ _ _ _).1 hA
 simp only [Nd.kids] at hlc hkids
 have hcm2 : c <= 9223372036854775807:=by simpa [maxLen] using hcm
 have HT : Hid (∀ j (h : j < l.length),(l.getD j dNd).t.size <= 1048576):=Lib.hid fun j h => by rw [getDn h]; exact hts _ (List.getElem_mem h)
 have HKD : Hid (0 < l.length -> ∃ b o,A = some ⟨b,o,none⟩ /\ S b o /\ ∀ (j : Nat) (h : j < l.length),KidAt S w b (o + j * 4) (l.getD j dNd)):=Lib.hid fun hp => by
  obtain ⟨b,o,h1,h2,h3⟩:=hkids hp
  exact ⟨b,o,h1,h2,fun j h => by rw [getDn h]; exact h3 j h⟩
 have HST : Hid _:=Lib.hid (bindR_drop l)
 have HSE : Hid (∀ acc,bindR (l.drop l.length) acc = acc):=Lib.hid fun acc => by rw [List.drop_length]; rfl
 obtain ⟨R,hR⟩ : ∃ R,bindR l [] = R:=⟨_,rfl⟩
 have HR0 : Hid (bindR (l.drop 0) [] = R):=Lib.hid (by rw [List.drop_zero]; exact hR)
 rw [hR]
 have al:=al_nd w #[.int .i64 k,.string t,.string v,.slice A l.length c]
 have hX:=Blk.new w 24 #[.int .i64 k,.string t,.string v,.slice A l.length c]
 have hlt0:=hX.lt
 obtain ⟨W0,hW0⟩ : ∃ W0,w.alloc (.cells #[.int .i64 k,.string t,.string v,.slice A l.length c] 24) = W0:=⟨_,rfl⟩
 rw [hW0] at al hX hlt0
 have HAL:=Lib.hid al
 have HX:=Lib.hid hX
 clear hts hA hkids al hX hR hlt0
 go_enter Tryz.func130,Tryz.ntmps130
 go_wp2
 clear hW0
 go_loopw [3,4] (fun cv i wr => ∃ (j : Nat) (acc : List (List UInt8)),j <= l.length /\ i = .int .i64 (j : Int) /\ acc.length <= j /\ Hid (bindR (l.drop j) acc = R) /\ Hid (ORow wr W0.heap.size 9 cv (acc.map strV)) /\ Hid (Below W0.heap.size W0 wr)) (fun _ i _ => l.length - (intOf i).toNat)
 case atStart => exact ⟨0,[],Nat.zero_le _,rfl,Nat.zero_le _,HR0,Lib.hid (ORow.nil _ _ _),Lib.hid (Below.refl _ _)⟩
 case round =>
  obtain ⟨j,acc,hj,rfl,hacc,HP,HO,HW⟩:=hrel
  have hbw : Below w.heap.size w wr:=HAL.out.trans (HW.out.mono HAL.out.size)
  have hss:=HW.out.size
  obtain ⟨x0,x1,x2,x3⟩:=nbox (n:=.mk k t v l) (HX.out.below HW.out HX.out.lt)
  simp only [Nd.k,Nd.t,Nd.v,Nd.kids] at x0 x1 x2 x3
  obtain ⟨cA,cC,hcv⟩:=HO.out.shapeP (n:=acc.length) (by simp)
  subst hcv
  by_cases hlt : j < l.length
  case pos =>
   obtain ⟨b,o,rfl,_,hkid⟩:=HKD.out (by omega)
   obtain ⟨B,cB,q0,q1,q2,q3,hn1⟩:=kid_cells (hkid j hlt) hbw
   have hjc : j < c:=by omega
   have hst:=HST.out j hlt acc
   rw [HP.out] at hst
   have hsz:=HT.out j hlt
   have HKQ:=Lib.hid (hkid j hlt)
   clear hkid HST HSE HT HKD HP HR0
   generalize l.getD j dNd = kd at *
   have hsp:=rspace15_any kd.t wr (Nat.le_trans hsz (by decide))
   generalize spaceOf kd.t = own at *
   have hrd : ∀ w1,Below wr.heap.size wr w1 -> ORow w1 W0.heap.size 9 (.slice cA acc.length cC) (acc.map strV):=fun w1 hb => HO.out.below hb (fun g hg => (World.ownsRow.lt HO.out g hg).2)
   have HRW:=Lib.hid hrd
   have HS:=Lib.hid hst
   clear hst hrd hn1 hsz
   by_cases h11 : kd.k = 11
   case neg =>
    have HS2 : Hid (bindR (l.drop (j + 1)) acc = R):=Lib.hid (by have:=HS.out; rw [if_pos (.inl h11)] at this; exact this.symm)
    have y1:=ibeq h11
    have y2:=ibne h11
    go_wp2_with fail
    refine hsp.mono ?_
    rintro e w1 ⟨rfl,hb1⟩
    have HO1:=Lib.hid (HRW.out w1 hb1)
    have HW1:=Lib.hid (HW.out.trans (hb1.mono hss))
    obtain ⟨x0,x1,x2,x3⟩:=nbox (n:=.mk k t v l) (HX.out.below HW1.out HX.out.lt)
    simp only [Nd.k,Nd.t,Nd.v,Nd.kids] at x0 x1 x2 x3
    obtain ⟨B,cB,p0,p1,p2,p3,_⟩:=kid_cells HKQ.out (HAL.out.trans (HW1.out.mono HAL.out.size))
    generalize kd.k = kk at *
    clear hb1 hsp HRW h11 HS
    go_wp2
    go_roundw
    case rel => exact ⟨j + 1,acc,hlt,by go_num,by omega,HS2,HO1,HW1⟩
    case measure => first | (simp [intOf]; done) | (simp [intOf]; omega)
   case pos =>
    by_cases h0 : own = []
    case pos =>
     subst h0
     have HS2 : Hid (bindR (l.drop (j + 1)) acc = R):=Lib.hid (by have:=HS.out; rw [if_pos (.inr rfl)] at this; exact this.symm)
     have hsp0 : Calls Tryz.prog 129 #[.string kd.t] wr fun e w' => e = .returned (.string ⟨#[]⟩) /\ Below wr.heap.size wr w':=hsp
     clear hsp
     go_wp2_with fail
     refine hsp0.mono ?_
     rintro e w1 ⟨rfl,hb1⟩
     have HO1:=Lib.hid (HRW.out w1 hb1)
     have HW1:=Lib.hid (HW.out.trans (hb1.mono hss))
     obtain ⟨x0,x1,x2,x3⟩:=nbox (n:=.mk k t v l) (HX.out.below HW1.out HX.out.lt)
     simp only [Nd.k,Nd.t,Nd.v,Nd.kids] at x0 x1 x2 x3
     obtain ⟨B,cB,p0,p1,p2,p3,_⟩:=kid_cells HKQ.out (HAL.out.trans (HW1.out.mono HAL.out.size))
     rw [h11] at p0
     clear hb1 hsp0 HRW h11 HS
     go_wp2
     go_roundw
     case rel => exact ⟨j + 1,acc,hlt,by go_num,by omega,HS2,HO1,HW1⟩
     case measure => first | (simp [intOf]; done) | (simp [intOf]; omega)
    case neg =>
     obtain ⟨n1,n2⟩:=str_neq (y:=[]) h0
     have t0 : (⟨([] : List UInt8).toArray⟩ : ByteArray).toList = []:=Lib.toList_data _
     rw [t0] at n1 n2
     have n3 : ¬ own = []:=h0
     have n4 : (own == []) = false:=by rw [beq_eq_false_iff_ne]; exact h0
     have n5 : ¬ own.isEmpty = true:=by simpa using h0
     have n6 : own.isEmpty = false:=by simpa using h0
     have HS3 : Hid ((own ∈ acc -> bindR (l.drop (j + 1)) acc = R) /\ (own ∉ acc -> bindR (l.drop (j + 1)) (acc ++ [own]) = R)):=Lib.hid (by
      have:=HS.out
      rw [if_neg (c:=¬ kd.k = 11 \/ own = []) (by rintro (h | h); exact h h11; exact h0 h)] at this
      exact ⟨fun h => by rw [if_pos h] at this; exact this.symm,fun h => by rw [if_neg h] at this; exact this.symm⟩)
     have h63 : (acc.map strV).length + 1 <= maxLen:=by simp only [List.length_map,maxLen]; omega
     have h16 : ((acc.map strV).length + 1) * 16 <= 140737488355328:=by simp only [List.length_map]; omega
     go_wp2_with fail
     refine hsp.mono ?_
     rintro e w1 ⟨rfl,hb1⟩
     have HO1:=Lib.hid (HRW.out w1 hb1)
     have HW1:=Lib.hid (HW.out.trans (hb1.mono hss))
     obtain ⟨x0,x1,x2,x3⟩:=nbox (n:=.mk k t v l) (HX.out.below HW1.out HX.out.lt)
     simp only [Nd.k,Nd.t,Nd.v,Nd.kids] at x0 x1 x2 x3
     obtain ⟨B,cB,p0,p1,p2,p3,_⟩:=kid_cells HKQ.out (HAL.out.trans (HW1.out.mono HAL.out.size))
     rw [h11] at p0
     have HTM : Hid _:=Lib.hid (take_mem acc)
     have HR1:=Lib.hid (HO1.out.sread)
     have hs1:=HW1.out.size
     clear hb1 hsp HRW h11 HS h0 t0
     go_wp2
     go_loop [6,7] (fun hv i => ∃ q : Nat,q <= acc.length /\ i = .int .i64 (q : Int) /\ hv = .bool (decide (own ∈ acc.take q))) (fun _ i => acc.length - (intOf i).toNat)
     case atStart => exact ⟨0,Nat.zero_le _,rfl,by simp⟩
     case round =>
      obtain ⟨q,hq,rfl,rfl⟩:=hrel
      by_cases hql : q < acc.length
      case pos =>
       obtain ⟨A2,c2,e2,hr⟩:=HR1.out
       injection e2 with e2 e3 e4
       subst e2 e4
       obtain ⟨ad,rfl,hc⟩:=hr (by omega)
       have hck:=hc q hql
       have hstep:=HTM.out q hql own
       clear hc hr HTM
       cases hd : decide (own ∈ acc.take q) with
       | true =>
        rw [hd,Bool.true_or] at hstep
        have HD:=Lib.hid hstep
        clear hstep hd
        go_wp2
        go_round
        case rel => exact ⟨q + 1,hql,by go_num,by rw [HD.out]⟩
        case measure => first | (simp [intOf]; done) | (simp [intOf]; omega)
       | false =>
        rw [hd,Bool.false_or] at hstep
        by_cases hy : acc[q] = own
        case pos =>
         rw [decide_eq_true hy] at hstep
         rw [hy] at hck
         have HD:=Lib.hid hstep
         clear hstep hd hy
         go_wp2
         go_round
         case rel => exact ⟨q + 1,hql,by go_num,by rw [HD.out]⟩
         case measure => first | (simp [intOf]; done) | (simp [intOf]; omega)
        case neg =>
         rw [decide_eq_false hy] at hstep
         obtain ⟨m1,m2⟩:=str_neq hy
         have m3 : (acc[q] == own) = false:=by rw [beq_eq_false_iff_ne]; exact hy
         have HD:=Lib.hid hstep
         generalize acc[q] = y at *
         clear hstep hd
         go_wp2
         go_round
         case rel => exact ⟨q + 1,hql,by go_num,by rw [HD.out]⟩
         case measure => first | (simp [intOf]; done) | (simp [intOf]; omega)
      case neg =>
       obtain rfl : q = acc.length:=by omega
       rw [List.take_length]
       clear HR1 HTM
       by_cases hm : own ∈ acc
       case pos =>
        rw [decide_eq_true hm]
        have HS2:=Lib.hid (HS3.out.1 hm)
        clear hm HS3
        go_wp2
        go_roundw
        case rel => exact ⟨j + 1,acc,hlt,by go_num,by omega,HS2,HO1,HW1⟩
        case measure => first | (simp [intOf]; done) | (simp [intOf]; omega)
       case neg =>
        rw [decide_eq_false hm]
        have HS2:=Lib.hid (HS3.out.2 hm)
        have HV : Hid (∀ w' v',ORow w' W0.heap.size 9 v' (acc.map strV ++ [.string ⟨own.toArray⟩]) -> ORow w' W0.heap.size 9 v' ((acc ++ [own]).map strV)):=Lib.hid fun w' v' h => by rw [List.map_append]; exact h
        clear hm HS3
        go_wp2_with (first
         | (at_builtin; refine wp_app1b rfl _ _ 152 rfl W0.heap.size 9 (.string ⟨#[]⟩) 16 Tryz.underlying152 Tryz.infoStrC rfl (.slice cA acc.length cC) (acc.map strV) (.string ⟨own.toArray⟩) rfl (by exact HO1.out) rfl 1 rfl h63 h16 hs1 ?_; intro v5 w5 hown5 hb5; have HO5:=Lib.hid (HV.out _ _ hown5); have HW5:=Lib.hid (HW1.out.trans hb5); clear HO1 HW1 hown5 hb5 hs1 HV))
        go_roundw
        case rel => exact ⟨j + 1,acc ++ [own],hlt,by go_num,by simp; omega,HS2,HO5,HW5⟩
        case measure => first | (simp [intOf]; done) | (simp [intOf]; omega)
  case neg =>
   obtain rfl : j = l.length:=by omega
   have he:=HSE.out acc
   rw [HP.out] at he
   subst he
   have HBW:=Lib.hid hbw
   clear HST HSE HT HKD HP HR0 hbw
   go_wp2
   go_ret
   exact ⟨_,_,rfl,HBW.out⟩
def PanQ (Q : Exit -> Act -> World -> Prop) (Rp : List PanicEntry -> World -> Prop) (d0 : List Deferred) : Exit -> Act -> World -> Prop :=
 fun e a w => (e = .normal /\ Q .normal a w) \/ ∃ c,e = .panic c /\ Rp c w /\ a.defers = d0
theorem pan_put {Q : Exit -> Act -> World -> Prop} {Rp : List PanicEntry -> World -> Prop} {d0 : List Deferred} {c : List PanicEntry} {a : Act} {w : World} {dst : Option Tmp} {v : Value} (h : PanQ Q Rp d0 (.panic c) (a.put dst v) w) : PanQ Q Rp d0 (.panic c) a w:=by
 rcases h with ⟨h,_⟩ | ⟨c',h1,h2,h3⟩
 ·cases h
 ·exact .inr ⟨c',h1,h2,by cases dst <;> exact h3⟩
theorem region_gp {P : Program} {ops : Array Oper} {Q : Exit -> Act -> World -> Prop} {id : Nat} (Es : List Nat) {S : World -> Prop} (Rp : List PanicEntry -> World -> Prop) {a : Act} {w : World} (hm : P.follows .mixedOrders = true) (hS : S w.drew)
 (hp : ∀ c a' w',a'.defers = a.defers -> Rp c w' -> Q (.panic c) a' w')
 (h : S w.drew -> wpAnyG P .any ops (PanQ Q Rp a.defers) Es S ops.size (Array.replicate ops.size false) a w.drew) : (Code.region id ops true).wp P Q a w :=
 wp_mono (wp_region_any hm (any_of_g _ _ _ _ (h hS))) fun e a' w' h => by
  rcases h with ⟨rfl,h⟩ | ⟨c,rfl,h,hd⟩
  ·exact h
  ·exact hp c a' w' hd h
def ndVal (n : Nd) (A : Option Addr) (c : Nat) : Value:=.agg #[.int .i64 n.k,.string n.t,.string n.v,.slice A n.kids.length c]
def restS (st : Sr) (n : Nd) (j : Nat) : Option (List Nat):=srL badS nextS (n.kids.drop j) (nextS st n) j
theorem restS_at (st : Sr) (n : Nd) (j : Nat) (h : j < n.kids.length) : restS st n j = match srN badS nextS (n.kids.getD j dNd) (nextS st n j) with | some q => some (j :: q) | none => restS st n (j + 1):=by
 unfold restS
 rw [List.drop_eq_getElem_cons h,srL_cons,getDn h]
 rfl
theorem restS_end (st : Sr) (n : Nd) : restS st n n.kids.length = none:=by unfold restS; rw [List.drop_length,srL_nil]
theorem srN_good (st : Sr) (n : Nd) (h : badS st n = false) : srN badS nextS n st = restS st n 0:=by
 rw [srN_def,if_neg (by rw [h]; decide)]
 rfl
theorem srN_bad (st : Sr) (n : Nd) (h : badS st n = true) : srN badS nextS n st = some []:=by rw [srN_def,if_pos h]
theorem size_kid {l : List Nd} {j : Nat} (h : j < l.length) : 1 + sizeN (l.getD j dNd) <= 1 + sizeL l /\ l.length <= sizeL l:=by
 have h1:=sizeL_len l
 have h2 : sizeN (l.getD j dNd) <= sizeL l:=by
  rw [getDn h]
  clear h1
  induction l generalizing j with
  | nil => simp at h
  | cons n r ih =>
   cases j with
   | zero => simp [sizeL]
   | succ j =>
    have:=ih (j:=j) (by simpa using h)
    simp only [List.getElem_cons_succ,sizeL]
    omega
 omega
theorem kids_vis (st : Sr) (s : Nat) (path : List Nat) (gr : Option Nat) (n : Nd) (A : Option Addr) (c : Nat) (w : World) (hi : SI s w path gr) (hA : NAt (fun b _ => b < s) w n A c) (hlen : path.length + sizeN n <= 100000)
 (g : FuncId) (first cap : Array Value) (hef : ∀ args w,(callFunc g args).run Tryz.prog w = .ok (.enter g args) w)
 (hv : ∀ j (h : j < n.kids.length) w1 g1 B cB,SI s w1 (path ++ [j]) g1 -> FrS s gr w w1 g1 -> NAt (fun b _ => b < s) w1 (n.kids.getD j dNd) B cB -> (path ++ [j]).length + sizeN (n.kids.getD j dNd) <= 100000 ->
  Calls Tryz.prog g (first.push (ndVal (n.kids.getD j dNd) B cB) ++ cap) w1 (VPost s (path ++ [j]) g1 w1 (srN badS nextS (n.kids.getD j dNd) (nextS st n j)))) :
 Calls Tryz.prog 84 #[.pointer (some ⟨s,0,none⟩),ndVal n A c,.func (.func g) first cap] w (VPost s path gr w (restS st n 0)):=by
 obtain ⟨k,t,v,l⟩:=n
 have hsz : sizeN (.mk k t v l) = 1 + sizeL l:=by simp [sizeN]
 have hll:=sizeL_len l
 refine kids_any s path gr k t v l A c w hi hA (by omega) (by omega) g first cap hef (fun j m => srN badS nextS m (nextS st (.mk k t v l) j)) (restS st (.mk k t v l)) (fun j h => restS_at st (.mk k t v l) j h) (restS_end st (.mk k t v l)) ?_
 intro j h w1 g1 B cB h1 h2 h3
 have:=size_kid h
 exact hv j h w1 g1 B cB h1 h2 h3 (by simp only [List.length_append,List.length_cons,List.length_nil,Nd.kids]; omega)
def VisAt (f : FuncId) (more : Array Value) (st : Sr) (n : Nd) : Prop:=∀ (s : Nat) (path : List Nat) (g : Option Nat) (A : Option Addr) (c : Nat) (w : World),SI s w path g -> NAt (fun b _ => b < s) w n A c -> path.length + sizeN n <= 100000 ->
    Calls Tryz.prog f (#[.pointer (some ⟨s,0,none⟩),ndVal n A c] ++ more) w (VPost s path g w (srN badS nextS n st))
theorem vis_app (a b : Value) (more : Array Value) : (#[a].push b ++ more) = #[a,b] ++ more:=by simp
theorem VPost.cases_ {s : Nat} {path : List Nat} {g : Option Nat} {w : World} {r : Option (List Nat)} {e : Ending} {w' : World} (h : VPost s path g w r e w') :
 (r = none /\ e = .returned (.tuple #[]) /\ VPost s path g w r (.returned (.tuple #[])) w') \/ (∃ v,e = .panicked (foundP v) /\ VPost s path g w r (.panicked (foundP v)) w'):=by
 rcases h with ⟨h1,rfl,h3⟩ | ⟨q,v,h1,rfl,h3⟩
 ·exact .inl ⟨h1,rfl,.inl ⟨h1,rfl,h3⟩⟩
 ·exact .inr ⟨v,rfl,.inr ⟨q,v,h1,rfl,h3⟩⟩
set_option maxHeartbeats 4000000 in
theorem brace_vis (n : Nd) : VisAt 47 #[] .brc n:=by
 induction n using Nd.ind with
 | h k t v l ih =>
  intro s path g A c w hi hA hlen
  have al:=al_nd w #[.int .i64 k,.string t,.string v,.slice A l.length c]
  have hi1:=hi.below al
  have HF : Hid (FrS s g w _ g):=Lib.hid (FrS.of_below al)
  have HI:=Lib.hid hi
  obtain ⟨x0,x1,x2,x3⟩:=nbox (n:=.mk k t v l) (Blk.new w 24 #[.int .i64 k,.string t,.string v,.slice A l.length c])
  simp only [Nd.k,Nd.t,Nd.v,Nd.kids] at x0 x1 x2 x3
  by_cases hk : k = 10
  ·subst hk
   rw [srN_bad _ _ (by simp [badS,Nd.k])]
   have hR:=refuse_yes s path g _ hi1
   clear ih hA hi hi1
   unfold ndVal
   go_enter Tryz.func47,Tryz.ntmps47
   go_wp2_with fail
   refine hR.mono ?_
   rintro e w1 ⟨u,rfl,ho,hb⟩
   exact ⟨rfl,.inr ⟨[],u,rfl,rfl,by rw [List.append_nil]; exact ho,(HF.out.low HI.out).trans (hb.mono (Nat.le_of_lt (HI.out.below al).lt))⟩⟩
  ·rw [srN_good _ _ (by simp [badS,Nd.k,hk])]
   have z1:=ibeq hk
   have hR:=refuse_no s
   have hK:=kids_vis .brc s path g (.mk k t v l) A c _ hi1 (hA.low (fun q hq => al.block q (Nat.lt_trans hq hi.lt))) hlen 47 #[.pointer (some ⟨s,0,none⟩)] #[] (fun _ _ => rfl) (fun j h w1 g1 B cB h1 h2 h3 h4 => by
    have:=ih _ (List.getElem_mem h) s _ g1 B cB w1 h1 (by rw [<- getDn h]; exact h3) (by rw [<- getDn h]; exact h4)
    rw [<- getDn h] at this
    rw [vis_app]
    exact this)
   unfold ndVal at hK ⊢
   simp only [Nd.k,Nd.t,Nd.v,Nd.kids] at hK ⊢
   clear ih hA hi hi1 hk
   go_enter Tryz.func47,Tryz.ntmps47
   go_wp2_with fail
   refine (hR _).mono ?_
   rintro e w1 ⟨rfl,rfl⟩
   clear hR
   go_wp2_with fail
   refine hK.mono ?_
   intro e w1 h
   have h2:=VPost.pre HI.out HF.out h
   rcases h2.cases_ with ⟨_,rfl,h3⟩ | ⟨u,rfl,h3⟩
   ·clear h h2 hK
    go_wp2
    go_end0
    exact h3
   ·exact ⟨rfl,h3⟩
theorem sameTexts_iff : ∀ (l m : List Nd),sameTexts l m = true ↔ l.map (·.t) = m.map (·.t)
 | [],[] => by simp [sameTexts]
 | a :: r,b :: s => by simp only [sameTexts,Bool.and_eq_true,decide_eq_true_iff,sameTexts_iff r s,List.map_cons,List.cons.injEq]
 | [],_ :: _ => by simp [sameTexts]
 | _ :: _,[] => by simp [sameTexts]
theorem sameTexts_len {l m : List Nd} (h : l.length ≠ m.length) : sameTexts l m = false:=by
 rw [Bool.eq_false_iff,Ne,sameTexts_iff]
 intro he
 exact h (by have:=congrArg List.length he; simpa using this)
theorem sameTexts_no {l m : List Nd} {j : Nat} (h : j < l.length) (h2 : j < m.length) (hne : (l.getD j dNd).t ≠ (m.getD j dNd).t) : sameTexts l m = false:=by
 rw [Bool.eq_false_iff,Ne,sameTexts_iff]
 intro he
 apply hne
 rw [getDn h,getDn h2]
 have:=congrArg (fun x => x[j]?) he
 simpa [h,h2] using this
theorem sameTexts_yes {l m : List Nd} (hl : l.length = m.length) (h : ∀ j,j < l.length -> (l.getD j dNd).t = (m.getD j dNd).t) : sameTexts l m = true:=by
 rw [sameTexts_iff]
 apply List.ext_getElem
 ·simpa using hl
 ·intro i h1 h2
  have h1' : i < l.length:=by simpa using h1
  have:=h i h1'
  rw [getDn h1',getDn (by omega)] at this
  simpa using this
theorem sametext_any (n m : Nd) (A A' : Option Addr) (c c' : Nat) (w : World) :
 Calls Tryz.prog 127 #[.agg #[.int .i64 n.k,.string n.t,.string n.v,.slice A n.kids.length c],.agg #[.int .i64 m.k,.string m.t,.string m.v,.slice A' m.kids.length c']] w fun e w' => e = .returned (.bool (decide (n.t = m.t))) /\ Below w.heap.size w w':=by
 have hbel : Below w.heap.size w ((w.alloc (.cells #[.int .i64 n.k,.string n.t,.string n.v,.slice A n.kids.length c] 24)).alloc (.cells #[.int .i64 m.k,.string m.t,.string m.v,.slice A' m.kids.length c'] 24)):=((Below.refl _ w).alloc (Nat.le_refl _) _).alloc (by simp) _
 by_cases ht : n.t = m.t
 ·rw [decide_eq_true ht]
  rw [ht] at hbel ⊢
  clear ht
  go_enter Tryz.func127,Tryz.ntmps127
  go_wp2
  go_ret
  exact ⟨rfl,hbel⟩
 ·rw [decide_eq_false ht]
  obtain ⟨z1,z2⟩:=str_diff ht
  generalize n.t = t1 at *
  generalize m.t = t2 at *
  clear ht
  go_enter Tryz.func127,Tryz.ntmps127
  go_wp2
  go_ret
  exact ⟨rfl,hbel⟩
set_option maxHeartbeats 4000000 in
theorem eqtext_any (l l' : List Nd) (S S' : Nat -> Nat -> Prop) (k k' : Int) (t t' v v' : ByteArray) (A A' : Option Addr) (c c' : Nat) (w : World) (hA : NAt S w (.mk k t v l) A c) (hA' : NAt S' w (.mk k' t' v' l') A' c') :
 Calls Tryz.prog 126 #[.slice A l.length c,.slice A' l'.length c',.func (.func 127) #[] #[]] w fun e w' => e = .returned (.bool (sameTexts l l')) /\ Below w.heap.size w w':=by
 obtain ⟨hlc,hcm,hkids⟩:=(NAt.def_ _ _ _).1 hA
 obtain ⟨hlc',hcm',hkids'⟩:=(NAt.def_ _ _ _).1 hA'
 simp only [Nd.kids] at hlc hkids hlc' hkids'
 have hcm2 : c <= 9223372036854775807:=by simpa [maxLen] using hcm
 have hcm2' : c' <= 9223372036854775807:=by simpa [maxLen] using hcm'
 by_cases hl : l.length = l'.length
 case neg =>
  rw [sameTexts_len hl]
  have z1:=ibeq (a:=(l.length : Int)) (b:=l'.length) (by omega)
  have z2:=ibne (a:=(l.length : Int)) (b:=l'.length) (by omega)
  clear hkids hkids' hA hA' hl
  go_enter Tryz.func126,Tryz.ntmps126
  go_wp2
  go_ret
  exact ⟨rfl,Below.refl _ _⟩
 case pos =>
  have HNO : Hid (∀ j (h : j < l.length),(l.getD j dNd).t ≠ (l'.getD j dNd).t -> sameTexts l l' = false):=Lib.hid fun j h hne => sameTexts_no h (by omega) hne
  have HYES : Hid ((∀ j,j < l.length -> (l.getD j dNd).t = (l'.getD j dNd).t) -> sameTexts l l' = true):=Lib.hid fun h => sameTexts_yes hl h
  have hkids2 : 0 < l.length -> ∃ b o,A' = some ⟨b,o,none⟩ /\ ∀ j,j < l.length -> KidAt S' w b (o + j * 4) (l'.getD j dNd):=fun hp => by
   obtain ⟨b,o,h1,_,h3⟩:=hkids' (by omega)
   exact ⟨b,o,h1,fun j hj => by rw [getDn (by omega)]; exact h3 j (by omega)⟩
  rw [<- hl] at hlc' ⊢
  obtain ⟨R,hR⟩ : ∃ R,sameTexts l l' = R:=⟨_,rfl⟩
  rw [hR] at HNO HYES ⊢
  clear hA hA' hkids' hl hR
  go_enter Tryz.func126,Tryz.ntmps126
  go_wp2
  go_loopw [17] (fun i wr => ∃ j : Nat,j <= l.length /\ i = .int .i64 (j : Int) /\ Hid (∀ i,i < j -> (l.getD i dNd).t = (l'.getD i dNd).t) /\ Hid (Below w.heap.size w wr)) (fun i _ => l.length - (intOf i).toNat)
  case atStart => exact ⟨0,Nat.zero_le _,rfl,Lib.hid (fun i hi => absurd hi (by omega)),Lib.hid (Below.refl _ _)⟩
  case round =>
   obtain ⟨j,hj,rfl,HP,HW⟩:=hrel
   by_cases hlt : j < l.length
   case pos =>
    obtain ⟨b,o,rfl,_,hkid⟩:=hkids (by omega)
    obtain ⟨b',o',rfl,hkid'⟩:=hkids2 (by omega)
    have hk1:=hkid j hlt
    rw [<- getDn hlt] at hk1
    obtain ⟨B,cB,q0,q1,q2,q3,hn1⟩:=kid_cells hk1 HW.out
    obtain ⟨B',cB',p0,p1,p2,p3,hn2⟩:=kid_cells (hkid' j hlt) HW.out
    have hjc : j < c:=by omega
    have hjc' : j < c':=by omega
    have HNJ:=Lib.hid (HNO.out j hlt)
    have HPJ : Hid ((l.getD j dNd).t = (l'.getD j dNd).t -> ∀ i,i < j + 1 -> (l.getD i dNd).t = (l'.getD i dNd).t):=Lib.hid fun he i hi => by
     rcases Nat.lt_succ_iff_lt_or_eq.1 hi with h | h
     ·exact HP.out i h
     ·rw [h]; exact he
    clear hkid hkid' hkids hkids2 hk1 HP HNO HYES hn1 hn2
    generalize l.getD j dNd = kd at *
    generalize l'.getD j dNd = kd' at *
    have hal:=fun o1 o2 => (show Below wr.heap.size wr ((wr.alloc o1).alloc o2) from ((Below.refl _ wr).alloc (Nat.le_refl _) _).alloc (by simp) _)
    have hih:=fun o1 o2 => sametext_any kd kd' B B' cB cB' ((wr.alloc o1).alloc o2)
    have a0:=fun o1 => ((Below.refl wr.heap.size wr).alloc (Nat.le_refl _) o1).cell (cell_lt p0) |>.trans p0
    have a1:=fun o1 => ((Below.refl wr.heap.size wr).alloc (Nat.le_refl _) o1).cell (cell_lt p1) |>.trans p1
    have a2:=fun o1 => ((Below.refl wr.heap.size wr).alloc (Nat.le_refl _) o1).cell (cell_lt p2) |>.trans p2
    have a3:=fun o1 => ((Below.refl wr.heap.size wr).alloc (Nat.le_refl _) o1).cell (cell_lt p3) |>.trans p3
    by_cases ht : kd.t = kd'.t
    case pos =>
     rw [decide_eq_true ht] at hih
     have HS:=Lib.hid (HPJ.out ht)
     clear ht HNJ HPJ
     go_wp2_with (first
      | (go_at_call 127; refine (hih _ _).mono ?_; clear hih; rintro e w5 ⟨rfl,hb5⟩))
     have hb6:=(hal _ _).trans (hb5.mono (hal _ _).size)
     go_roundw
     case rel => exact ⟨j + 1,hlt,by go_num,HS,Lib.hid (HW.out.trans (hb6.mono HW.out.size))⟩
     case measure => first | (simp [intOf]; done) | (simp [intOf]; omega)
    case neg =>
     rw [decide_eq_false ht] at hih
     have HS:=Lib.hid (HNJ.out ht)
     clear ht HNJ HPJ
     go_wp2_with (first
      | (go_at_call 127; refine (hih _ _).mono ?_; clear hih; rintro e w5 ⟨rfl,hb5⟩))
     have hb6:=(hal _ _).trans (hb5.mono (hal _ _).size)
     go_ret
     exact ⟨by rw [HS.out] <;> rfl,HW.out.trans (hb6.mono HW.out.size)⟩
   case neg =>
    obtain rfl : j = l.length:=by omega
    have HPP:=Lib.hid (HYES.out HP.out)
    clear HP HYES HNO
    go_wp2
    go_ret
    exact ⟨by rw [HPP.out] <;> rfl,HW.out⟩
set_option maxHeartbeats 4000000 in
theorem isrow_any (n m : Nd) (S S' : Nat -> Nat -> Prop) (A A' : Option Addr) (c c' : Nat) (w : World) (hA : NAt S w n A c) (hA' : NAt S' w m A' c') :
 Calls Tryz.prog 91 #[ndVal n A c,ndVal m A' c'] w fun e w' => e = .returned (.bool (rowB n m)) /\ Below w.heap.size w w':=by
 have hbel : Below w.heap.size w ((w.alloc (.cells #[.int .i64 n.k,.string n.t,.string n.v,.slice A n.kids.length c] 24)).alloc (.cells #[.int .i64 m.k,.string m.t,.string m.v,.slice A' m.kids.length c'] 24)):=((Below.refl _ w).alloc (Nat.le_refl _) _).alloc (by simp) _
 obtain ⟨k,t,v,l⟩:=n
 obtain ⟨k',t',v',l'⟩:=m
 have hE:=eqtext_any l l' S S' k k' t t' v v' A A' c c' _ (hA.below hbel) (hA'.below hbel)
 have hrb : rowB (.mk k t v l) (.mk k' t' v' l') = (decide (k = 7) && (decide (0 < l'.length) && (decide (l'.length <= 8) && sameTexts l l'))):=rfl
 rw [hrb]
 unfold ndVal
 simp only [Nd.k,Nd.t,Nd.v,Nd.kids] at hbel hE ⊢
 have hcx : l'.length <= 9223372036854775807:=by
  obtain ⟨h1,h2,_⟩:=(NAt.def_ _ _ _).1 hA'
  simp only [Nd.kids,maxLen] at h1 h2
  omega
 clear hA hA'
 by_cases h7 : k = 7
 case neg =>
  rw [decide_eq_false h7,Bool.false_and]
  have z1:=ibeq h7
  clear hE h7
  go_enter Tryz.func91,Tryz.ntmps91
  go_wp2
  go_ret
  exact ⟨rfl,hbel⟩
 subst h7
 rw [decide_eq_true rfl,Bool.true_and]
 by_cases h0 : 0 < l'.length
 case neg =>
  rw [decide_eq_false h0,Bool.false_and]
  clear hE
  go_enter Tryz.func91,Tryz.ntmps91
  go_wp2
  go_ret
  exact ⟨rfl,hbel⟩
 rw [decide_eq_true h0,Bool.true_and]
 by_cases h8 : l'.length <= 8
 case neg =>
  rw [decide_eq_false h8,Bool.false_and]
  have h8' : ¬ ((l'.length : Int) <= 8):=by omega
  clear hE
  go_enter Tryz.func91,Tryz.ntmps91
  go_wp2
  go_ret
  exact ⟨rfl,hbel⟩
 rw [decide_eq_true h8,Bool.true_and]
 have h8' : (l'.length : Int) <= 8:=by omega
 generalize sameTexts l l' = R at *
 go_enter Tryz.func91,Tryz.ntmps91
 go_wp2_with fail
 refine hE.mono ?_
 rintro e w1 ⟨rfl,hb1⟩
 have HB:=Lib.hid (hbel.trans (hb1.mono hbel.size))
 clear hE hb1 hbel
 go_wp2
 go_ret
 exact ⟨rfl,HB.out⟩
end Go.Proofs.YtbnppjmmlfncmaaGreatDoor
