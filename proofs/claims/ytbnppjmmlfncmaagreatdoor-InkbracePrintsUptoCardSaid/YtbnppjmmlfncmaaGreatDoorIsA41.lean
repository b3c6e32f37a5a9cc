/-
  carry's reference: a way as a row of nodes, and back.
  carry's reference: first.
  carry's reference: Of.
-/
import Derived.Test.YtbnppjmmlfncmaaGreatDoorIsA40
import Derived.Test.YtbnppjmmlfncmaaGreatDoorIsA23
import Derived.Test.YtbnppjmmlfncmaaGreatDoorIsA21
import Derived.Deep.Upon
import Derived.Test.YtbnppjmmlfncmaaGreatDoorIsA37
set_option maxRecDepth 100000
set_option linter.unusedSimpArgs false
set_option linter.unusedVariables false
namespace Go.Proofs.YtbnppjmmlfncmaaGreatDoor
open Go.RowKit Go.Maps
theorem kat_kvs {S : Nat -> Nat -> Prop} {w : World} {b : Nat} : ∀ (l : List Nd) (o : Nat),(∀ j (h : j < l.length),KidAt S w b (o + j * 4) l[j]) ->
 ∃ ks : List KV,ks.map (·.n) = l /\ (∀ j u,(kvCs ks)[j]? = some u -> w.cell? ⟨b,o + j,none⟩ = some u) /\ ∀ q ∈ ks,NAt S w q.n q.a q.c
 | [],o,_ => ⟨[],rfl,fun j u h => by simp [kvCs] at h,fun q hq => by cases hq⟩
 | n :: r,o,h => by
  have h0:=h 0 (by simp)
  simp only [Nat.zero_mul,Nat.add_zero,List.getElem_cons_zero] at h0
  obtain ⟨A,c,q0,q1,q2,q3,hn⟩:=h0
  obtain ⟨ks,i1,i2,i3⟩:=kat_kvs r (o + 4) (fun j hj => by
   have:=h (j + 1) (by simpa using hj)
   rw [show o + 4 + j * 4 = o + (j + 1) * 4 by omega]
   simpa using this)
  refine ⟨⟨n,A,c⟩ :: ks,by simp [i1],fun j u hu => ?_,fun q hq => ?_⟩
  ·by_cases hj : j < 4
   ·have e : (kvCs (⟨n,A,c⟩ :: ks))[j]? = (kvC ⟨n,A,c⟩)[j]?:=by
     simp only [kvCs,List.flatMap_cons]
     rw [List.getElem?_append_left (by simp [kvC,ndC]; omega)]
    rw [e] at hu
    rcases (show j = 0 \/ j = 1 \/ j = 2 \/ j = 3 by omega) with rfl | rfl | rfl | rfl
    ·rw [Nat.add_zero,q0]; exact hu
    ·rw [q1]; exact hu
    ·rw [q2]; exact hu
    ·rw [q3]; exact hu
   ·obtain ⟨i,rfl⟩ : ∃ i,j = 4 + i:=⟨j - 4,by omega⟩
    have e : (kvCs (⟨n,A,c⟩ :: ks))[4 + i]? = (kvCs ks)[i]?:=by
     simp only [kvCs,List.flatMap_cons]
     rw [List.getElem?_append_right (by simp [kvC,ndC])]
     congr 1
     simp [kvC,ndC]
    rw [e] at hu
    have:=i2 i u hu
    rw [show o + (4 + i) = o + 4 + i by omega]
    exact this
  ·rcases List.mem_cons.1 hq with rfl | hq
   ·exact hn
   ·exact i3 q hq
theorem addr_add (g o j : Nat) : (⟨g,o,none⟩ : Addr).add j = ⟨g,o + j,none⟩:=by unfold Addr.add; split <;> simp_all
theorem way_kvs {w : World} {way : List Nd} {n : Nd} {A : Option Addr} {c : Nat} (h : WayAt w way n A c) :
 ∃ (ks : List KV) (b o : Nat),A = some ⟨b,o,none⟩ /\ ks.map (·.n) = way ++ [n] /\ ks.length = way.length + 1 /\ (∀ j u,(kvCs ks)[j]? = some u -> w.cell? ((⟨b,o,none⟩ : Addr).add j) = some u) /\ ∀ q ∈ ks,NAt (fun _ _ => True) w q.n q.a q.c:=by
 obtain ⟨h1,h2,h3⟩:=(NAt.def_ _ _ _).1 h
 simp only [Nd.kids] at h1 h3
 obtain ⟨b,o,ha,_,hk⟩:=h3 (by simp)
 obtain ⟨ks,i1,i2,i3⟩:=kat_kvs (way ++ [n]) o hk
 refine ⟨ks,b,o,ha,i1,?_,fun j u hu => by rw [addr_add]; exact i2 j u hu,i3⟩
 have:=congrArg List.length i1
 simpa using this
theorem own_way {w : World} {base : Nat} {v : Value} {m : Nat} {ks : List KV} {way : List Nd} {n : Nd} (hr : w.ownsRow base 24 4 v m (kvCs ks)) (hm : m = way.length + 1) (hk : ks.map (·.n) = way ++ [n]) (hq : ∀ q ∈ ks,NAt (fun _ _ => True) w q.n q.a q.c) :
 ∃ A c,v = .slice A (way.length + 1) c /\ WayAt w way n A c:=by
 subst hm
 have hlen : ks.length = way.length + 1:=by
  have:=congrArg List.length hk
  simpa using this
 rcases hr.2 with ⟨_,h0⟩ | ⟨g,c,cur,rfl,hg,hh,hnc,hm,hs,ht⟩
 ·omega
 ·refine ⟨some ⟨g,0,none⟩,c,rfl,?_⟩
  unfold WayAt
  rw [NAt.def_]
  refine ⟨by simp only [Nd.kids,List.length_append,List.length_cons,List.length_nil]; exact hnc,hm,fun hp => ⟨g,0,rfl,trivial,fun j hj => ?_⟩⟩
  simp only [Nd.kids] at hj ⊢
  have hjk : j < ks.length:=by simp at hj; omega
  have hat : ∀ i,i < 4 -> w.cell? ⟨g,j * 4 + i,none⟩ = (kvC ks[j])[i]?:=fun i hi => by
   rw [rowN_cell hr (by omega)]
   exact kvCs_get ks j hjk i hi
  have he : (way ++ [n])[j] = ks[j].n:=by
   have : (ks.map (·.n))[j]'(by simpa using hjk) = (way ++ [n])[j]:=by simp only [hk]
   rw [<- this,List.getElem_map]
  rw [Nat.zero_add,he]
  exact ⟨ks[j].a,ks[j].c,hat 0 (by omega),hat 1 (by omega),hat 2 (by omega),hat 3 (by omega),hq _ (List.getElem_mem hjk)⟩
theorem b63 {L : Nat} (h : L <= 1000) : 0 + (L + 1) <= maxLen /\ (0 + (L + 1)) * 64 <= 140737488355328 /\ L + 1 + 1 <= maxLen /\ (L + 1 + 1) * 64 <= 140737488355328:=by
 have : (1002 : Nat) <= maxLen:=by decide
 exact ⟨by omega,by omega,by omega,by omega⟩
theorem src_noneP (P : Program) (size : Nat) (tx e : TypeId) (ht : P.underlying tx = some (.slice e)) (w : World) : Src P size tx (.slice none 0 0) 0 [] w :=
 ⟨.inl ⟨e,ht⟩,fun w' => by simp [Builtin.lenOf],by simp [Builtin.firstCells],by simp [Builtin.firstCells],by simp,by simp⟩
theorem wp_appP {ops : Array Oper} {rest : List Oper} {o : Oper} {a : Act} {Q : Exit -> Act -> World -> Prop} {w : World} (hgd : o.guard = none) (s x : Operand)
 (ho : o.op = .call { callee:=.builtin .append,args:=#[s,x],argTypes:=#[27,27] })
 (vx : Value) (p : List Nat) (hs : a.eval s = .slice none 0 0) (hx : a.eval x = vx) (hr : IRead w vx (iP p)) (hp : p = [] -> vx = .slice none 0 0) (hl : p.length <= 1000)
 (h : ∀ v' w',ORow w' w.heap.size 3 v' ((iP p).map iV) -> Below w.heap.size w w' -> wpList Tryz.prog ops Q rest (a.put o.dst v') w') :
 wpList Tryz.prog ops Q (o :: rest) a w:=by
 have h64 : (1001 : Nat) <= maxLen:=by decide
 have hnil : w.ownsRow w.heap.size 3 1 (.slice none 0 0) 0 []:=World.ownsRow_nil _ _ _ _
 by_cases h0 : p = []
 ·subst h0
  obtain rfl:=hp rfl
  obtain ⟨i,hi,hz,hsize,hby⟩:=info_parts Tryz.info3
  refine wpList_plain hgd fun K hK => ?_
  have hrun:=run_append_nothing (P:=Tryz.prog) w 27 27 o.type 3 i Tryz.underlying27 hi none 0 0 (Nat.le_refl _) (.slice none 0 0) (src_noneP _ _ _ _ Tryz.underlying27 _)
  unfold Oper.wp execOp
  simp only [ho,resolve,invoke,builtin,Sem.run_bind,Sem.run_pure,Result.andThen_ok,List.map_toArray,List.map_cons,List.map_nil,hs,hx,List.length_nil,hrun]
  exact hK _ _ (h _ _ (ORow.nil _ _ _) (Below.refl _ _))
 ·have hlen : (iP p).length = p.length:=by simp [iP]
  obtain ⟨A,c,rfl,hc⟩:=hr
  rw [hlen] at hx
  obtain ⟨ad,rfl,hcell⟩:=hc (by rw [hlen]; exact List.length_pos_iff.2 h0)
  refine wp_appO hgd s x 27 ho w.heap.size 3 (.int .i64 0) 1 8 Tryz.underlying27 Tryz.info3 rfl (by decide) (.slice none 0 0) 0 [] ((iP p).map iV) hs hnil (by intro u hu; obtain ⟨z,_,rfl⟩:=List.mem_map.1 hu; rfl) ad p.length c (by simp [hlen]) hx (fun j u hu => ?_) (by omega) (by omega) (Nat.le_refl _) ?_
  ·obtain ⟨hj,rfl⟩:=List.getElem?_eq_some_iff.1 hu
   have hj2 : j < (iP p).length:=by simpa using hj
   rw [hcell j hj2]
   simp [iV]
  ·intro v' w' h1 h2
   refine h v' w' ?_ h2.none_below
   unfold ORow
   rw [Nat.zero_add,List.nil_append] at h1
   simpa [hlen] using h1
def rbad (x : Int) (way : List Nd) (n : Nd) : Bool:=!tellsT x way n
def rnext (way : List Nd) (n : Nd) (_ : Nat) : List Nd:=way ++ [n]
def FstPost (place : List Nat) (w : World) (r : Option (List Nat)) (e : Ending) (w' : World) : Prop :=
 ((r = none /\ e = .returned (.tuple #[.slice none 0 0,.bool false])) \/ ∃ q v,r = some q /\ e = .returned (.tuple #[v,.bool true]) /\ IRead w' v (iP (place ++ q))) /\ Below w.heap.size w w'
def FstAt (x : Int) (n : Nd) : Prop:=∀ (way : List Nd) (place : List Nat) (A : Option Addr) (c : Nat) (pv : Value) (w : World),ChainOk way n -> WayAt w way n A c -> IRead w pv (iP place) -> (place = [] -> pv = .slice none 0 0) -> place.length + sizeN n <= 1000 ->
    Calls Tryz.prog 30 #[.int .i64 x,.slice A (way.length + 1) c,pv] w (FstPost place w (srN (rbad x) rnext n way))
theorem iP_snoc (place : List Nat) (j : Nat) : (iP (place ++ [j])).map iV = (iP place).map iV ++ [.int .i64 (j : Int)]:=by simp [iP,iV]
theorem iP_bounds {place : List Nat} (h : place.length <= 1000) : ((iP place).map iV).length + 1 <= maxLen /\ (((iP place).map iV).length + 1) * 8 <= 140737488355328:=by
 have : (1002 : Nat) <= maxLen:=by decide
 simp only [iP,List.length_map]
 omega
theorem fst_call {x : Int} {n kd : Nd} {way : List Nd} {place : List Nat} {j : Nat} {A4 : Option Addr} {c4 : Nat} {w4 : World} (hF : FstAt x kd) (hch : ChainOk (way ++ [n]) kd) (hW : WayAt w4 (way ++ [n]) kd A4 c4) (hl : place.length + 1 + sizeN kd <= 1000)
 {v5 v6 : Value} {w5 w6 : World} (h5 : ORow w5 w4.heap.size 3 v5 ((iP place).map iV)) (hb5 : Below w4.heap.size w4 w5) (h6 : ORow w6 w4.heap.size 3 v6 ((iP place).map iV ++ [.int .i64 (j : Int)])) (hg : w5.grownBy w6 v5.ownBlock) :
 Below w4.heap.size w4 w6 /\ Calls Tryz.prog 30 #[.int .i64 x,.slice A4 (way.length + 1 + 1) c4,v6] w6 (FstPost (place ++ [j]) w6 (srN (rbad x) rnext kd (way ++ [n]))):=by
 have hb6 : Below w4.heap.size w4 w6:=hb5.trans ⟨hg.os,hg.tape,hg.output,hg.size,fun k hk => hg.block k (Nat.lt_of_lt_of_le hk hb5.size) fun e => by
  have:=(World.ownsRow.lt h5 k e.symm).1
  omega⟩
 have hC:=hF (way ++ [n]) (place ++ [j]) A4 c4 v6 w6 hch (hW.below hb6) (IRead.of_row (by rw [iP_snoc]; exact h6)) (fun e => by simp at e) (by simp; omega)
 rw [show (way ++ [n]).length + 1 = way.length + 1 + 1 by simp] at hC
 exact ⟨hb6,hC⟩
def TellsAt (x : Int) : Prop:=∀ (way : List Nd) (n : Nd),WayOk way n -> ∀ (A : Option Addr) (c : Nat) (w : World),WayAt w way n A c -> Calls Tryz.prog 52 #[.int .i64 x,.slice A (way.length + 1) c] w fun e w' => e = .returned (.bool (tellsT x way n)) /\ Below w.heap.size w w'
set_option maxHeartbeats 8000000 in
theorem first_step (x : Int) (hTA : TellsAt x) (n : Nd) (ih : ∀ m ∈ n.kids,FstAt x m) : FstAt x n:=by
 intro way place A c pv w hch hA hp hpn hpl
 have hT:=hTA way n hch.way A c w hA
 clear hTA
 obtain ⟨Ap,cp,rfl,hpc⟩:=hp
 have hip : (iP place).length = place.length:=by simp [iP]
 rw [hip] at hpn ⊢
 have HPR : Hid (∀ W,Below w.heap.size w W -> IRead W (.slice Ap place.length cp) (iP place)):=Lib.hid fun W hW => IRead.below ⟨Ap,cp,by rw [hip],hpc⟩ hW
 rw [srN_def]
 cases hb : tellsT x way n with
 | false =>
  rw [hb] at hT
  rw [if_pos (show rbad x way n = true by unfold rbad; rw [hb]; rfl)]
  clear ih hpc hA hch hb
  go_enter Tryz.func30,Tryz.ntmps30
  go_wp2_with fail
  refine hT.mono ?_
  rintro e w1 ⟨rfl,hb1⟩
  have HB1:=Lib.hid hb1
  clear hb1 hT
  go_wp2
  go_ret2
  exact ⟨.inr ⟨[],_,rfl,rfl,by rw [List.append_nil]; exact HPR.out w1 HB1.out⟩,HB1.out⟩
 | true =>
  rw [hb] at hT
  rw [if_neg (show ¬ rbad x way n = true by unfold rbad; rw [hb]; decide)]
  obtain ⟨hlc,hcm,b,o,rfl,hway,hlast⟩:=hA.nth
  obtain ⟨ks,b',o',hbo,hks,hkl,hkc,hkn⟩:=way_kvs hA
  injection hbo with hbo
  injection hbo with hb1 ho1
  subst hb1 ho1
  have HKC : Hid (∀ W,Below w.heap.size w W -> ∀ j u,(kvCs ks)[j]? = some u -> W.cell? ((⟨b,o,none⟩ : Addr).add j) = some u):=Lib.hid fun W hW j u hu => (hW.cell (cell_lt (hkc j u hu))).trans (hkc j u hu)
  have HKN : Hid (∀ W,Below w.heap.size w W -> ∀ q ∈ ks,NAt (fun _ _ => True) W q.n q.a q.c):=Lib.hid fun W hW q hq => (hkn q hq).below hW
  have hLB:=fun (W : World) (hW : Below w.heap.size w W) => kid_cells hlast hW
  have hlt1 : way.length < c:=by omega
  have hwl:=hch.len
  have HRS : Hid (∀ j (h : j < n.kids.length),srL (rbad x) rnext (n.kids.drop j) (rnext way n) j = match srN (rbad x) rnext (n.kids.getD j dNd) (way ++ [n]) with | some q => some (j :: q) | none => srL (rbad x) rnext (n.kids.drop (j + 1)) (rnext way n) (j + 1)):=Lib.hid fun j h => by
   rw [List.drop_eq_getElem_cons h,srL_cons,getDn h]
   rfl
  have HRE : Hid (srL (rbad x) rnext (n.kids.drop n.kids.length) (rnext way n) n.kids.length = none):=Lib.hid (by rw [List.drop_length,srL_nil])
  obtain ⟨R,hR⟩ : ∃ R,srL (rbad x) rnext n.kids (rnext way n) 0 = R:=⟨_,rfl⟩
  have HR0 : Hid (srL (rbad x) rnext (n.kids.drop 0) (rnext way n) 0 = R):=Lib.hid (by rw [List.drop_zero]; exact hR)
  rw [hR]
  have HIH : Hid (∀ j (h : j < n.kids.length),FstAt x (n.kids.getD j dNd) /\ ChainOk (way ++ [n]) (n.kids.getD j dNd) /\ sizeN (n.kids.getD j dNd) < sizeN n):=Lib.hid fun j h => ⟨ih _ (kid_mem h),hch.kid (kid_mem h),size_mem (kid_mem h)⟩
  have hkz:=size_kids n
  clear hA ih hch hb hkc hkn hlast hway hR hpc
  go_enter Tryz.func30,Tryz.ntmps30
  go_wp2_with fail
  refine hT.mono ?_
  rintro e w1 ⟨rfl,hb1⟩
  obtain ⟨B,cB,q0,q1,q2,q3,hn1⟩:=hLB w1 hb1
  obtain ⟨hnc,hnm,hnk⟩:=(NAt.def_ _ _ _).1 hn1
  have hnm2 : cB <= 9223372036854775807:=by simpa [maxLen] using hnm
  have al:=al_nd w1 #[.int .i64 n.k,.string n.t,.string n.v,.slice B n.kids.length cB]
  have bX:=Blk.new w1 24 #[.int .i64 n.k,.string n.t,.string n.v,.slice B n.kids.length cB]
  obtain ⟨W0,hW0⟩ : ∃ W0,w1.alloc (.cells #[.int .i64 n.k,.string n.t,.string n.v,.slice B n.kids.length cB] 24) = W0:=⟨_,rfl⟩
  rw [hW0] at al bX
  have HNK : Hid (∀ j (h : j < n.kids.length),∃ b2 o2,B = some ⟨b2,o2,none⟩ /\ ∀ W,Below W0.heap.size W0 W -> KidAt (fun _ _ => True) W b2 (o2 + j * 4) (n.kids.getD j dNd)):=Lib.hid fun j h => by
   obtain ⟨b2,o2,h1,_,h3⟩:=hnk (by omega)
   refine ⟨b2,o2,h1,fun W hW => ?_⟩
   have h4:=h3 j h
   rw [<- getDn h] at h4
   exact kid_cells (kid_cells h4 al) hW
  have HB0:=Lib.hid (hb1.trans (al.mono hb1.size))
  have HBX:=Lib.hid bX
  clear hb1 hT hLB al bX hn1 hnk
  go_wp2
  clear hW0
  go_loopw [10] (fun i wr => ∃ j : Nat,j <= n.kids.length /\ i = .int .i64 (j : Int) /\ Hid (srL (rbad x) rnext (n.kids.drop j) (rnext way n) j = R) /\ Hid (Below W0.heap.size W0 wr)) (fun i _ => n.kids.length - (intOf i).toNat)
  case atStart => exact ⟨0,Nat.zero_le _,rfl,HR0,Lib.hid (Below.refl _ _)⟩
  case round =>
   obtain ⟨j,hj,rfl,HP,HW⟩:=hrel
   have hbw:=HB0.out.trans (HW.out.mono HB0.out.size)
   have v3 : wr.cell? ⟨w1.heap.size,3,none⟩ = some (.slice B n.kids.length cB):=(HBX.out.below HW.out HBX.out.lt).cell 3
   have HBW:=Lib.hid hbw
   clear hbw
   by_cases hlt : j < n.kids.length
   case pos =>
    obtain ⟨b2,o2,rfl,hkk⟩:=HNK.out j hlt
    have hst:=HRS.out j hlt
    rw [HP.out] at hst
    obtain ⟨hF,hchk,hsz⟩:=HIH.out j hlt
    have hjc : j < cB:=by omega
    have hplen : place.length <= 1000:=by omega
    have hpb:=iP_bounds hplen
    have HKK:=Lib.hid hkk
    obtain ⟨kd,hkd⟩ : ∃ kd,n.kids.getD j dNd = kd:=⟨_,rfl⟩
    rw [hkd] at hst hF hchk hsz HKK
    have hpk : place.length + 1 + sizeN kd <= 1000:=by omega
    have hklen : (kvCs ks).length = (way.length + 1) * 4:=by rw [kvCs_len,hkl]
    have hone : ∀ u ∈ kvCs ks,u.oneCell' = true:=by
     intro u hu
     obtain ⟨q,_,hq⟩:=List.mem_flatMap.1 hu
     simp only [kvC,ndC,List.mem_cons,List.not_mem_nil,or_false] at hq
     rcases hq with rfl | rfl | rfl | rfl <;> rfl
    have hkc:=HKC.out wr HBW.out
    obtain ⟨h63,h64,h63b,h64b⟩:=b63 (Nat.le_trans (Nat.le_add_right way.length (sizeN n)) hwl)
    have hnil:=World.ownsRow_nil wr wr.heap.size 24 4
    have HST:=Lib.hid hst
    have HF:=Lib.hid (And.intro hF hchk)
    have HONE:=Lib.hid hone
    have HKC2:=Lib.hid hkc
    have HNIL:=Lib.hid hnil
    have HKL:=Lib.hid hklen
    clear hst hF hchk hone hkc hnil hklen hkk hkd HRS HRE HR0 HIH HP HNK
    obtain ⟨Bk,ck,m0,m1,m2,m3,hnk⟩:=HKK.out wr HW.out
    have HNK:=Lib.hid hnk
    have H1 : Hid (∀ v2 w2,w2.ownsRow wr.heap.size 24 4 v2 (0 + (way.length + 1)) ([] ++ kvCs ks) -> OStep wr (.slice none 0 0) w2 v2 -> ∃ A2 c2,v2 = .slice A2 (way.length + 1) c2 /\ w2.ownsRow wr.heap.size 24 4 (.slice A2 (way.length + 1) c2) (way.length + 1) (kvCs ks) /\ Below wr.heap.size wr w2 /\ w2.cell? ⟨w1.heap.size,3,none⟩ = some (.slice (some ⟨b2,o2,none⟩) n.kids.length cB) /\ w2.cell? ⟨b2,o2 + j * 4,none⟩ = some (.int .i64 kd.k) /\ w2.cell? ⟨b2,o2 + j * 4 + 1,none⟩ = some (.string kd.t) /\ w2.cell? ⟨b2,o2 + j * 4 + 2,none⟩ = some (.string kd.v) /\ w2.cell? ⟨b2,o2 + j * 4 + 3,none⟩ = some (.slice Bk kd.kids.length ck)):=Lib.hid fun v2 w2 hown hO => by
     have hbe:=hO.none_below
     have hb2:=HW.out.trans (hbe.mono HW.out.size)
     rw [Nat.zero_add,List.nil_append] at hown
     obtain ⟨g2,c2,rfl⟩:=rowN_shape hown (Nat.succ_pos _)
     exact ⟨_,_,rfl,hown,hbe,(HBX.out.below hb2 HBX.out.lt).cell 3,(hbe.cell (cell_lt m0)).trans m0,(hbe.cell (cell_lt m1)).trans m1,(hbe.cell (cell_lt m2)).trans m2,(hbe.cell (cell_lt m3)).trans m3⟩
    have H2 : Hid (∀ v4 w4,w4.ownsRow wr.heap.size 24 4 v4 (way.length + 1 + 1) (kvCs ks ++ [.int .i64 kd.k,.string kd.t,.string kd.v,.slice Bk kd.kids.length ck]) -> Below wr.heap.size wr w4 -> ∃ A4 c4,v4 = .slice A4 ((way ++ [n]).length + 1) c4 /\ WayAt w4 (way ++ [n]) kd A4 c4 /\ Below w.heap.size w w4):=Lib.hid fun v4 w4 h4 hb4 => by
     have hbw4:=HBW.out.trans (hb4.mono HBW.out.size)
     have h5 : w4.ownsRow wr.heap.size 24 4 v4 (way.length + 1 + 1) (kvCs (ks ++ [⟨kd,Bk,ck⟩])):=by
      have : kvCs (ks ++ [⟨kd,Bk,ck⟩]) = kvCs ks ++ [.int .i64 kd.k,.string kd.t,.string kd.v,.slice Bk kd.kids.length ck]:=by simp [kvCs,kvC,ndC]
      rw [this]; exact h4
     obtain ⟨A4,c4,h6,h7⟩:=own_way h5 (way:=way ++ [n]) (n:=kd) (by simp) (by simp [hks]) (fun q hq => by
      rcases List.mem_append.1 hq with hq | hq
      ·exact HKN.out w4 hbw4 q hq
      ·simp at hq
       subst hq
       exact HNK.out.below hb4)
     exact ⟨A4,c4,h6,h7,hbw4⟩
    clear m0 m1 m2 m3 hnk
    go_wp2_with (first
     | (at_builtin; refine wp_appO rfl _ _ 22 rfl wr.heap.size 24 _ 4 64 Tryz.underlying22 Tryz.infoNd rfl (by decide) (.slice none 0 0) 0 [] (kvCs ks) rfl (by exact HNIL.out) HONE.out ⟨b,o,none⟩ (way.length + 1) c HKL.out rfl HKC2.out h63 h64 (Nat.le_refl _) ?_; intro v2 w2 hown2 hO2; obtain ⟨A2,c2,rfl,hown3,hbe2,y3,k0,k1,k2,k3⟩:=H1.out v2 w2 hown2 hO2; have HO2:=Lib.hid hown3; clear hown3; have HE2:=Lib.hid hbe2; clear hown2 hO2 H1 hbe2 HNIL; have hn3:=World.ownsRow.alloc HO2.out (.cells #[.int .i64 kd.k,.string kd.t,.string kd.v,.slice Bk kd.kids.length ck] 24); have hs2:=HE2.out.size; have hs3 : wr.heap.size <= (w2.alloc (.cells #[.int .i64 kd.k,.string kd.t,.string kd.v,.slice Bk kd.kids.length ck] 24)).heap.size:=by simp; omega)
     | (at_builtin; refine wp_appO rfl _ _ 22 rfl wr.heap.size 24 _ 4 64 Tryz.underlying22 Tryz.infoNd rfl (by decide) (.slice A2 (way.length + 1) c2) (way.length + 1) (kvCs ks) [.int .i64 kd.k,.string kd.t,.string kd.v,.slice Bk kd.kids.length ck] rfl (by exact hn3) (by simp [Value.oneCell']) ⟨w2.heap.size,0,none⟩ 1 1 rfl rfl (by exact cellsOf4 w2 _ _ _ _ _) h63b h64b hs3 ?_; intro v4 w4 hown4 hO4; have hb4:=(HE2.out.alloc hs2 (.cells #[.int .i64 kd.k,.string kd.t,.string kd.v,.slice Bk kd.kids.length ck] 24)).trans (hO4.below hn3 hs3); obtain ⟨A4,c4,rfl,hw4,hbw4⟩:=H2.out v4 w4 hown4 hb4; have HW4:=Lib.hid hw4; have HB4:=Lib.hid hb4; have HPQ:=Lib.hid (HPR.out w4 hbw4); clear hown4 hO4 H2 hb4 hw4 hbw4 hn3 hs2 hs3 HO2 y3 k0 k1 k2 k3)
     | (at_builtin; refine wp_appP rfl _ _ rfl _ place rfl rfl HPQ.out hpn hplen ?_; intro v5 w5 hown5 hb5)
     | (at_builtin; refine wp_app1 rfl _ _ 27 rfl w4.heap.size 3 (.int .i64 0) 8 Tryz.underlying27 Tryz.info3 rfl v5 ((iP place).map iV) (.int .i64 (j : Int)) rfl hown5 rfl 1 rfl hpb.1 hpb.2 hb5.size ?_; intro v6 w6 ho6 hg6 _; obtain ⟨hb6,hC⟩:=fst_call HF.out.1 HF.out.2 HW4.out hpk hown5 hb5 ho6 hg6; clear hown5 hb5 ho6 hg6 HF HW4 HPQ)
     | fail)
    refine hC.mono ?_
    unfold FstPost
    have HB6:=Lib.hid (HB4.out.trans (hb6.mono HB4.out.size))
    clear hC hb6 HB4
    rintro e w7 ⟨(⟨hr,rfl⟩ | ⟨q,v,hr,rfl,hv⟩),hb7⟩
    ·have hst:=HST.out
     rw [hr] at hst
     have HP2 : Hid (srL (rbad x) rnext (n.kids.drop (j + 1)) (rnext way n) (j + 1) = R):=Lib.hid hst.symm
     have HB7 : Hid (Below W0.heap.size W0 w7):=Lib.hid ((HW.out.trans (HB6.out.mono HW.out.size)).trans (hb7.mono (Nat.le_trans HW.out.size HB6.out.size)))
     clear hst hb7 hr HST
     go_wp2
     go_roundw
     case rel => exact ⟨j + 1,hlt,by go_num,HP2,HB7⟩
     case measure => first | (simp [intOf]; done) | (simp [intOf]; omega)
    ·have hst:=HST.out
     rw [hr] at hst
     have HP2 : Hid (R = some (j :: q)):=Lib.hid hst
     have HV:=Lib.hid hv
     have HB7 : Hid (Below w.heap.size w w7):=Lib.hid ((HBW.out.trans (HB6.out.mono HBW.out.size)).trans (hb7.mono (Nat.le_trans HBW.out.size HB6.out.size)))
     clear hst hb7 hr HST hv
     go_wp2
     go_ret2
     exact ⟨.inr ⟨j :: q,v,HP2.out,rfl,by simpa [List.append_assoc] using HV.out⟩,HB7.out⟩
   case neg =>
    obtain rfl : j = n.kids.length:=by omega
    have he:=HP.out
    rw [HRE.out] at he
    have HE:=Lib.hid he
    clear he HRS HRE HR0 HIH HP HNK HKC HKN HPR
    go_wp2
    go_ret2
    exact ⟨.inl ⟨HE.out.symm,rfl⟩,HBW.out⟩
theorem first_of (x : Int) (hTA : TellsAt x) (n : Nd) : FstAt x n:=by
 induction n using Nd.ind with
 | h k t v l ih => exact first_step x hTA _ ih
theorem way_root {w : World} {n : Nd} {b : Nat} {A : Option Addr} {c : Nat} (hb : Blk w b 24 #[.int .i64 n.k,.string n.t,.string n.v,.slice A n.kids.length c]) (hA : NAt (fun _ _ => True) w n A c) : WayAt w [] n (some ⟨b,0,none⟩) 1:=by
 unfold WayAt
 rw [NAt.def_]
 refine ⟨Nat.le_refl _,by decide,fun _ => ⟨b,0,rfl,trivial,fun j hj => ?_⟩⟩
 obtain rfl : j = 0:=by simpa [Nd.kids] using hj
 exact ⟨A,c,hb.cell 0,hb.cell 1,hb.cell 2,hb.cell 3,hA⟩
theorem refP_eq (x : Int) (n : Nd) : srN (rbad x) rnext n [] = refP x n:=rfl
set_option maxHeartbeats 8000000 in
theorem rof_gen (x : Int) (hx : 1 <= x /\ x <= 6) (n : Nd) (hF : mayN n = 0 -> FstAt x n /\ ChainOk [] n) (A : Option Addr) (c : Nat) (w : World) (hA : NAt (fun b _ => b < w.heap.size) w n A c) (hsm : smallT n) (hz : sizeN n <= 1000) :
 Calls Tryz.prog 12 #[.int .i64 x,.agg #[.int .i64 n.k,.string n.t,.string n.v,.slice A n.kids.length c]] w (OfPost x n (refP x n) w):=by
 have alk:=al_nd w #[.int .i64 n.k,.string n.t,.string n.v,.slice A n.kids.length c]
 have bX:=Blk.new w 24 #[.int .i64 n.k,.string n.t,.string n.v,.slice A n.kids.length c]
 obtain ⟨W0,hW0⟩ : ∃ W0,w.alloc (.cells #[.int .i64 n.k,.string n.t,.string n.v,.slice A n.kids.length c] 24) = W0:=⟨_,rfl⟩
 rw [hW0] at alk bX
 have hA0:=hA.upp alk
 have hM:=rwalk_any n A c W0 hsm (by omega) hA0
 obtain ⟨x0,x1,x2,x3⟩:=nbox bX
 have hx1 : ¬ x < 1:=by omega
 have hx6 : ¬ 6 < x:=by omega
 have HX:=Lib.hid bX
 have HB:=Lib.hid alk
 have HA0:=Lib.hid hA0
 unfold OfPost
 rw [<- refP_eq]
 obtain ⟨E,hE⟩ : ∃ E,mayN n = E:=⟨_,rfl⟩
 rw [hE] at hM hF ⊢
 clear bX alk hA hA0 hx hsm
 by_cases h0 : E = 0
 case neg =>
  have z5:=ibeq h0
  have z6:=ibne h0
  rw [if_neg h0,if_neg h0]
  clear hF h0
  go_enter Tryz.func12,Tryz.ntmps12
  go_wp2_with fail
  refine hM.mono ?_
  rintro e w1 ⟨lv,rfl,hb1,_,_⟩
  have HB1:=Lib.hid (HB.out.trans (hb1.mono HB.out.size))
  clear hb1 hM hW0
  go_wp2
  go_ret2
  exact ⟨_,rfl,IRead.nil _ _,HB1.out⟩
 case pos =>
  subst h0
  obtain ⟨hfst,hch⟩:=hF rfl
  rw [if_pos rfl,if_pos rfl]
  have HRT : Hid (∀ (A' : Option Addr) (c' : Nat) (w' : World),WayAt w' [] n A' c' -> Calls Tryz.prog 30 #[.int .i64 x,.slice A' 1 c',.slice none 0 0] w' (FstPost [] w' (srN (rbad x) rnext n []))):=Lib.hid fun A' c' w' hw' => hfst [] [] A' c' (.slice none 0 0) w' hch hw' (IRead.nil _ _) (fun _ => rfl) (by simp; omega)
  generalize srN (rbad x) rnext n [] = r at *
  clear hfst hch hF hE
  go_enter Tryz.func12,Tryz.ntmps12
  go_wp2_with fail
  refine hM.mono ?_
  rintro e w1 ⟨lv,rfl,hb1,_,_⟩
  have hX1:=HX.out.below hb1 HX.out.lt
  obtain ⟨x0,x1,x2,x3⟩:=nbox hX1
  have al2:=al_nd w1 #[.int .i64 n.k,.string n.t,.string n.v,.slice A n.kids.length c]
  have hway:=way_root (Blk.new w1 24 #[.int .i64 n.k,.string n.t,.string n.v,.slice A n.kids.length c]) (((HA0.out.below hb1).below al2).weaken fun _ _ _ => trivial)
  have hC:=HRT.out _ _ _ hway
  have HB1:=Lib.hid (HB.out.trans ((hb1.trans (al2.mono hb1.size)).mono HB.out.size))
  clear hb1 hM hW0 hway al2 hX1 HRT HX HA0
  unfold FstPost at hC
  go_wp2_with fail
  refine hC.mono ?_
  rintro e w2 ⟨(⟨hr,rfl⟩ | ⟨q,v,hr,rfl,hv⟩),hb2⟩
  ·subst hr
   have HB2:=Lib.hid (HB1.out.trans (hb2.mono HB1.out.size))
   clear hb2 hC
   go_wp2
   go_ret2
   exact ⟨_,rfl,IRead.nil _ _,HB2.out⟩
  ·subst hr
   have HB2:=Lib.hid (HB1.out.trans (hb2.mono HB1.out.size))
   have HV:=Lib.hid hv
   clear hb2 hC hv
   go_wp2
   go_ret2
   exact ⟨_,rfl,by simpa using HV.out,HB2.out⟩
end Go.Proofs.YtbnppjmmlfncmaaGreatDoor
