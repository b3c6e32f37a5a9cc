/-
  The reference's Read: its contract.
-/
import Derived.Test.YtbnppjmmlfncmaaGreatDoorIrA22
import Derived.Test.YtbnppjmmlfncmaaGreatDoorIrA23
import Derived.Deep.RegionLaw
import Derived.IntWalk
set_option maxRecDepth 100000
namespace Go.Proofs.YtbnppjmmlfncmaaGreatDoor.Nm
open Go.RowKit
section
variable {P : Program} {w : World}
theorem wp_appC {ops : Array Oper} {rest : List Oper} {o : Oper} {a : Act} {Q : Exit -> Act -> World -> Prop} (hgd : o.guard = none) (s x : Operand) (t : TypeId)
 (ho : o.op = .call { callee:=.builtin .append,args:=#[s,x],argTypes:=#[t,t] })
 (base : Nat) (e : TypeId) (z : Value) (bytes : Nat) (ht : P.underlying t = some (.slice e)) (hinfo : (P.info? e).map (fun i => (i.zero,i.size,i.bytes)) = some (some z,1,bytes)) (hz1 : z.cells.size = 1)
 (v : Value) (xs : List Value) (u : Value) (hs : a.eval s = v) (hown : ORow w base e v xs) (hu : u.oneCell' = true)
 (c g : Nat) (hx : a.eval x = .slice (some ⟨g,0,none⟩) 1 c) (hc : w.cell? ⟨g,0,none⟩ = some u)
 (h63 : xs.length + 1 <= maxLen) (hbytes : (xs.length + 1) * bytes <= 140737488355328) (hbase : base <= w.heap.size)
 (h : ∀ v' w',ORow w' base e v' (xs ++ [u]) -> Below base w w' -> wpList P ops Q rest (a.put o.dst v') w') :
 wpList P ops Q (o :: rest) a w:=by
 obtain ⟨i,hi,hz,hsize,hby⟩:=info_parts hinfo
 refine wpList_plain hgd fun K hK => ?_
 obtain ⟨v',w',hrun,h2,h3,_,h5⟩:=run_append_own_at (P:=P) w base t o.type e i z 1 bytes ht hi hz hsize hby hz1 (by decide) v xs.length xs hown
  ⟨g,0,none⟩ 1 c [u] rfl (fun j y hy => by
   cases j with
   | zero => simp at hy; subst hy; rw [addr_add0]; exact hc
   | succ j => simp at hy) (fun y hy => by simp at hy; subst hy; exact hu) h63 hbytes hbase
 unfold Oper.wp execOp
 simp only [ho,resolve,invoke,builtin,Sem.run_bind,Sem.run_pure,Result.andThen_ok,List.map_toArray,List.map_cons,List.map_nil,hs,hx,hrun]
 refine hK _ _ (h v' w' ?_ ?_)
 ·unfold ORow
  rw [List.length_append]
  exact h2
 ·refine ⟨h3.os,h3.tape,h3.output,h3.size,fun k hk => h3.block k (by omega) fun hcc => ?_⟩
  have:=World.ownsRow.lt hown k hcc.symm
  omega
theorem step_appC {ops : Array Oper} {o : Oper} {a : Act} {K : Act -> World -> Prop} {Q : Exit -> Act -> World -> Prop} {E : Prop} (hgd : o.guard = none) (s x : Operand) (t : TypeId)
 (ho : o.op = .call { callee:=.builtin .append,args:=#[s,x],argTypes:=#[t,t] })
 (base : Nat) (e : TypeId) (z : Value) (bytes : Nat) (ht : P.underlying t = some (.slice e)) (hinfo : (P.info? e).map (fun i => (i.zero,i.size,i.bytes)) = some (some z,1,bytes)) (hz1 : z.cells.size = 1)
 (v : Value) (xs : List Value) (u : Value) (hs : a.eval s = v) (hown : ORow w base e v xs) (hu : u.oneCell' = true)
 (c g : Nat) (hx : a.eval x = .slice (some ⟨g,0,none⟩) 1 c) (hc : w.cell? ⟨g,0,none⟩ = some u)
 (h63 : xs.length + 1 <= maxLen) (hbytes : (xs.length + 1) * bytes <= 140737488355328) (hbase : base <= w.heap.size)
 (h : ∀ v' w',ORow w' base e v' (xs ++ [u]) -> Below base w w' -> K (a.put o.dst v') w') :
 if Region.wanted o (yielded ops a.tmps) = true then Oper.wp P o a w K Q else E:=by
 have hw : Region.wanted o (yielded ops a.tmps) = true:=by simp [Region.wanted,hgd]
 rw [if_pos hw]
 obtain ⟨i,hi,hz,hsize,hby⟩:=info_parts hinfo
 obtain ⟨v',w',hrun,h2,h3,_,h5⟩:=run_append_own_at (P:=P) w base t o.type e i z 1 bytes ht hi hz hsize hby hz1 (by decide) v xs.length xs hown
  ⟨g,0,none⟩ 1 c [u] rfl (fun j y hy => by
   cases j with
   | zero => simp at hy; subst hy; rw [addr_add0]; exact hc
   | succ j => simp at hy) (fun y hy => by simp at hy; subst hy; exact hu) h63 hbytes hbase
 unfold Oper.wp execOp
 simp only [ho,resolve,invoke,builtin,Sem.run_bind,Sem.run_pure,Result.andThen_ok,List.map_toArray,List.map_cons,List.map_nil,hs,hx,hrun]
 refine h v' w' ?_ ?_
 ·unfold ORow
  rw [List.length_append]
  exact h2
 ·refine ⟨h3.os,h3.tape,h3.output,h3.size,fun k hk => h3.block k (by omega) fun hcc => ?_⟩
  have:=World.ownsRow.lt hown k hcc.symm
  omega
end
theorem Tryz.info3 : (Tryz.prog.info? 3).map (fun i => (i.zero,i.size,i.bytes)) = some (some (.int .i64 0),1,8):=by kernel_rfl
theorem _root_.Go.Proofs.YtbnppjmmlfncmaaGreatDoor.ORow.set_far {w : World} {base : Nat} {e : TypeId} {v : Value} {xs : List Value} (h : ORow w base e v xs) {p : Addr} (hp : p.block < base) (u : Value) : ORow (w.setCell p u) base e v xs:=by
 refine ⟨h.1,?_⟩
 rcases h.2 with hn | ⟨g,cap,cur,hv,hg,hh,r⟩
 ·exact .inl hn
 ·exact .inr ⟨g,cap,cur,hv,hg,(Below.heap_setCell w p u g (by omega)).trans hh,r⟩
theorem dIs_snoc (DA : ByteArray) (k : Nat) (h : k < DA.size) : (dIs (DA.data.toList.take (k + 1))).map iV = (dIs (DA.data.toList.take k)).map iV ++ [.int .i64 ((DA[k].toNat : Int) - 48)]:=by
 rw [List.take_succ_eq_append_getElem (by simpa using h)]
 unfold dIs
 rw [List.map_append,List.map_append]
 rfl
def dnL (l : List UInt8) : Bool:=l.any (fun b => decide (b.toNat = 45))
theorem dnL_snoc (l : List UInt8) (b : UInt8) : dnL (l ++ [b]) = (dnL l || decide (b.toNat = 45)):=by unfold dnL; simp
theorem satN_snoc (acc : Nat) (l : List UInt8) (b : UInt8) : satN acc (l ++ [b]) = satStep (satN acc l) b:=by
 induction l generalizing acc with
 | nil => rfl
 | cons c l ih => exact ih _
theorem satStep_le (acc : Nat) (b : UInt8) (h : acc <= 17592186044416) : satStep acc b <= 17592186044416:=by
 by_cases hc : dig b = true /\ acc < B40
 ·rw [satStep_yes hc.1 hc.2]
  have:=dig_range hc.1
  have h2:=hc.2
  unfold B40 at h2
  omega
 ·rw [satStep_no hc]; exact h
theorem satN_le (l : List UInt8) (acc : Nat) (h : acc <= 17592186044416) : satN acc l <= 17592186044416:=by
 induction l generalizing acc with
 | nil => exact h
 | cons b l ih => exact ih _ (satStep_le acc b h)
theorem dnL_digits {l : List UInt8} (h : l.all dig = true) : dnL l = false:=by
 unfold dnL
 rw [List.any_eq_false]
 intro b hb
 have:=dig_range (List.all_eq_true.1 h b hb)
 simp
 omega
theorem dnL_tail {t : List UInt8} (h : t = [] \/ (sgn t).all dig = true) : dnL t = negL t:=by
 rcases h with rfl | h
 ·rfl
 ·cases t with
  | nil => rfl
  | cons b l =>
   by_cases hp : isPM b = true
   ·have e : sgn (b :: l) = l:=by unfold sgn; exact if_pos hp
    rw [e] at h
    have:=dnL_digits h
    unfold dnL at this ⊢
    rw [List.any_cons,this]
    unfold negL
    simp
   ·have e : sgn (b :: l) = b :: l:=by unfold sgn; exact if_neg hp
    rw [e] at h
    rw [dnL_digits h,neg_digits h]
structure RS (w0 w1 : World) (neg : Bool) (slv : Value) (p : Int) : Prop where
 r : Blk w1 w0.heap.size 180 #[.bool false,.slice none 0 0,.int .i64 0]
 v : Blk w1 (w0.heap.size + 1) 180 #[.bool neg,slv,.int .i64 p]
 bel : Below w0.heap.size w0 w1
section
variable {w0 w1 w2 : World} {neg : Bool} {slv : Value} {p : Int}
theorem RS.next (h : RS w0 w1 neg slv p) (hb : Below w1.heap.size w1 w2) : RS w0 w2 neg slv p :=
 ⟨h.r.below hb h.r.lt,h.v.below hb h.v.lt,h.bel.trans (hb.mono h.bel.size)⟩
theorem RS.nextB (h : RS w0 w1 neg slv p) (hb : Below (w0.heap.size + 2) w1 w2) : RS w0 w2 neg slv p :=
 ⟨h.r.below hb (by omega),h.v.below hb (by omega),h.bel.trans (hb.mono (by omega))⟩
theorem RS.drewN (h : RS w0 w1 neg slv p) (n : Nat) : RS w0 (w1.drewN n) neg slv p:=h.next (below_drewN (Below.refl _ _) n)
theorem RS.set1 (h : RS w0 w1 neg slv p) (x : Value) : RS w0 (w1.setCell ⟨w0.heap.size + 1,1,none⟩ x) neg x p :=
 ⟨h.r.far (by simp) _,h.v.set_ 1 _,h.bel.setCell (by simp) _⟩
theorem RS.set2 (h : RS w0 w1 neg slv p) (x : Int) : RS w0 (w1.setCell ⟨w0.heap.size + 1,2,none⟩ (.int .i64 x)) neg slv x :=
 ⟨h.r.far (by simp) _,h.v.set_ 2 _,h.bel.setCell (by simp) _⟩
theorem RS.c0 (h : RS w0 w1 neg slv p) : w1.cell? ⟨w0.heap.size + 1,0,none⟩ = some (.bool neg):=h.v.cell 0
theorem RS.c1 (h : RS w0 w1 neg slv p) : w1.cell? ⟨w0.heap.size + 1,1,none⟩ = some slv:=h.v.cell 1
theorem RS.c2 (h : RS w0 w1 neg slv p) : w1.cell? ⟨w0.heap.size + 1,2,none⟩ = some (.int .i64 p):=h.v.cell 2
theorem RS.f0 (h : RS w0 w1 neg slv p) : w1.frozen? ⟨w0.heap.size + 1,0,none⟩ = false:=h.v.frozen 0
theorem RS.f1 (h : RS w0 w1 neg slv p) : w1.frozen? ⟨w0.heap.size + 1,1,none⟩ = false:=h.v.frozen 1
theorem RS.f2 (h : RS w0 w1 neg slv p) : w1.frozen? ⟨w0.heap.size + 1,2,none⟩ = false:=h.v.frozen 2
theorem RS.r0 (h : RS w0 w1 neg slv p) : w1.cell? ⟨w0.heap.size,0,none⟩ = some (.bool false):=h.r.cell 0
theorem RS.r1 (h : RS w0 w1 neg slv p) : w1.cell? ⟨w0.heap.size,1,none⟩ = some (.slice none 0 0):=h.r.cell 1
theorem RS.r2 (h : RS w0 w1 neg slv p) : w1.cell? ⟨w0.heap.size,2,none⟩ = some (.int .i64 0):=h.r.cell 2
theorem RS.g0 (h : RS w0 w1 neg slv p) : w1.frozen? ⟨w0.heap.size,0,none⟩ = false:=h.r.frozen 0
theorem RS.g1 (h : RS w0 w1 neg slv p) : w1.frozen? ⟨w0.heap.size,1,none⟩ = false:=h.r.frozen 1
theorem RS.g2 (h : RS w0 w1 neg slv p) : w1.frozen? ⟨w0.heap.size,2,none⟩ = false:=h.r.frozen 2
end
theorem hb_byte (DA : ByteArray) (k : Nat) (hlt : k < DA.size) (hall : DA.data.toList.all dig = true) : 48 <= (DA[k].toNat : Int) /\ (DA[k].toNat : Int) <= 57:=by
 have:=dig_range (List.all_eq_true.1 hall DA[k] (by
  have h2 : DA.data.toList[k]'(by simpa using hlt) = DA[k]:=rfl
  rw [<- h2]
  exact List.getElem_mem _))
 omega
theorem tail_ok {l : List UInt8} (h : isB l = true) : (parts l).tail = [] \/ (sgn (parts l).tail).all dig = true:=by
 rcases cutE h with ⟨_,_,_,_,h1,_⟩ | ⟨_,_,_,_,_,_,h2,_⟩
 ·exact .inl h1
 ·exact .inr h2
def IRF (w : World) (B : Nat) (v : Value) (xs : List Int) : Prop:=∃ A c,v = .slice A xs.length c /\ xs.length <= c /\ (0 < xs.length -> ∃ ad : Addr,A = some ad /\ B <= ad.block /\ ∀ j (h : j < xs.length),w.cell? (ad.add j) = some (.int .i64 xs[j]))
theorem add_block (ad : Addr) (j : Nat) : (ad.add j).block = ad.block:=by unfold Addr.add; split <;> rfl
theorem add_add (ad : Addr) (i j : Nat) : (ad.add i).add j = ad.add (i + j):=by
 by_cases hi : i = 0
 ·subst hi; rw [Nat.zero_add]; simp [Addr.add]
 ·by_cases hj : j = 0
  ·subst hj; simp [Addr.add]
  ·simp [Addr.add,hi,hj]
   omega
theorem IRF.set {w : World} {B : Nat} {v : Value} {xs : List Int} (h : IRF w B v xs) {p : Addr} (hp : p.block < B) (u : Value) : IRF (w.setCell p u) B v xs:=by
 obtain ⟨A,c,hv,hc,hA⟩:=h
 refine ⟨A,c,hv,hc,fun hpos => ?_⟩
 obtain ⟨ad,h1,h2,h3⟩:=hA hpos
 refine ⟨ad,h1,h2,fun j hj => ?_⟩
 rw [<- h3 j hj]
 exact World.cell?_of_block (Below.heap_setCell w p u _ (by rw [add_block]; omega))
theorem IRF.read {w : World} {B : Nat} {v : Value} {xs : List Int} (h : IRF w B v xs) : IRead w v xs:=by
 obtain ⟨A,c,hv,_,hA⟩:=h
 refine ⟨A,c,hv,fun hpos => ?_⟩
 obtain ⟨ad,h1,_,h3⟩:=hA hpos
 exact ⟨ad,h1,h3⟩
theorem IRF.of_row {w : World} {B : Nat} {e : TypeId} {v : Value} {xs : List Int} (h : ORow w B e v (xs.map iV)) : IRF w B v xs:=by
 rcases h.form with ⟨rfl,hn⟩ | ⟨g,cap,rfl,hg,_,hcap,_⟩
 ·have : xs = []:=by simpa using hn
  subst this
  exact ⟨none,0,rfl,Nat.le_refl _,fun hh => absurd hh (by simp)⟩
 ·refine ⟨some ⟨g,0,none⟩,cap,by simp,by simpa using hcap,fun _ => ⟨_,rfl,hg,fun j hj => ?_⟩⟩
  obtain ⟨g',hg',_,_,hc⟩:=h.cell (k:=j) (by simpa using hj)
  injection hg' with hg'
  injection hg' with hg'
  subst hg'
  rw [addr_add0,hc]
  simp [iV]
theorem trimR_snoc (D : List UInt8) (b : UInt8) : Lib.trimRightB (D ++ [b]) 48 = if b = 48 then Lib.trimRightB D 48 else D ++ [b]:=by
 unfold Lib.trimRightB
 rw [List.reverse_append]
 simp only [List.reverse_cons,List.reverse_nil,List.nil_append,List.cons_append]
 rw [List.dropWhile_cons]
 by_cases h : b = 48
 ·subst h; simp
 ·have : (b == 48) = false:=by simpa using h
  rw [this,if_neg h]
  simp
theorem IRF.cells {w : World} {B : Nat} {v : Value} {D : List UInt8} (h : IRF w B v (dIs D)) : ∃ A c,v = .slice A D.length c /\ D.length <= c /\ (0 < D.length -> ∃ ad : Addr,A = some ad /\ B <= ad.block /\ ∀ j (hj : j < D.length),w.cell? (ad.add j) = some (.int .i64 (dI D[j]))):=by
 obtain ⟨A,c,hv,hc,hA⟩:=h
 have hl : (dIs D).length = D.length:=by unfold dIs; simp
 refine ⟨A,c,by rw [hv,hl],by omega,fun hp => ?_⟩
 obtain ⟨ad,h1,h2,h3⟩:=hA (by omega)
 refine ⟨ad,h1,h2,fun j hj => ?_⟩
 rw [h3 j (by omega)]
 simp [dIs]
theorem IRF.mk {w : World} {B : Nat} {D : List UInt8} {A : Option Addr} {c : Nat} (hc : D.length <= c) (hA : 0 < D.length -> ∃ ad : Addr,A = some ad /\ B <= ad.block /\ ∀ j (hj : j < D.length),w.cell? (ad.add j) = some (.int .i64 (dI D[j]))) : IRF w B (.slice A D.length c) (dIs D):=by
 have hl : (dIs D).length = D.length:=by unfold dIs; simp
 refine ⟨A,c,by rw [hl],by omega,fun hp => ?_⟩
 obtain ⟨ad,h1,h2,h3⟩:=hA (by omega)
 refine ⟨ad,h1,h2,fun j hj => ?_⟩
 rw [h3 j (by omega)]
 simp [dIs]
theorem IRF.nil {w : World} {B : Nat} {v : Value} (h : IRF w B v (dIs [])) : ∃ A c,v = .slice A 0 c:=by
 obtain ⟨A,c,hv,_⟩:=h.cells
 exact ⟨A,c,hv⟩
theorem IRF.snoc {w : World} {B : Nat} {v : Value} {D : List UInt8} {b : UInt8} (h : IRF w B v (dIs (D ++ [b]))) :
 ∃ ad c,v = .slice (some ad) (D.length + 1) c /\ D.length + 1 <= c /\ w.cell? (ad.add D.length) = some (.int .i64 (dI b)) /\ IRF w B (.slice (some ad) D.length c) (dIs D):=by
 obtain ⟨A,c,hv,hc,hA⟩:=h.cells
 rw [List.length_append] at hv hc
 obtain ⟨ad,rfl,h2,h3⟩:=hA (by simp)
 refine ⟨ad,c,hv,hc,?_,IRF.mk (by simp at hc; omega) fun _ => ⟨ad,rfl,h2,fun j hj => ?_⟩⟩
 ·rw [h3 D.length (by simp)]; simp
 ·rw [h3 j (by simp; omega),List.getElem_append_left hj]
theorem IRF.cons {w : World} {B : Nat} {v : Value} {D : List UInt8} {b : UInt8} (h : IRF w B v (dIs (b :: D))) :
 ∃ ad c,v = .slice (some ad) (D.length + 1) c /\ D.length + 1 <= c /\ w.cell? ad = some (.int .i64 (dI b)) /\ IRF w B (.slice (some (if c = 1 then ad else ad.add 1)) D.length (c - 1)) (dIs D):=by
 obtain ⟨A,c,hv,hc,hA⟩:=h.cells
 rw [List.length_cons] at hv hc
 obtain ⟨ad,rfl,h2,h3⟩:=hA (by simp)
 refine ⟨ad,c,hv,hc,?_,IRF.mk (by omega) fun hp => ⟨_,rfl,?_,fun j hj => ?_⟩⟩
 ·have:=h3 0 (by simp)
  rw [show ad.add 0 = ad from by simp [Addr.add]] at this
  rw [this]; simp
 ·split
  ·exact h2
  ·rw [add_block]; exact h2
 ·rw [if_neg (by omega),add_add,Nat.add_comm,h3 (j + 1) (by simp; omega)]
  simp
theorem snoc_cases (D : List UInt8) : D = [] \/ ∃ D0 b,D = D0 ++ [b]:=by
 rcases List.eq_nil_or_concat D with h | ⟨D0,b,h⟩
 ·exact .inl h
 ·exact .inr ⟨D0,b,by rw [h]; simp⟩
theorem dI_48 (b : UInt8) (h : b ≠ 48) (hd : dig b = true) : 0 < dI b:=by
 have:=dig_range hd
 have : b.toNat ≠ 48:=fun hc => h (UInt8.toNat_inj.1 hc)
 unfold dI
 omega
theorem IRF.below {w w' : World} {B : Nat} {v : Value} {xs : List Int} (h : IRF w B v xs) (hb : Below w.heap.size w w') : IRF w' B v xs:=by
 obtain ⟨A,c,hv,hc,hA⟩:=h
 refine ⟨A,c,hv,hc,fun hpos => ?_⟩
 obtain ⟨ad,h1,h2,h3⟩:=hA hpos
 refine ⟨ad,h1,h2,fun j hj => ?_⟩
 exact (hb.cell (p:=ad.add j) (cell_lt (h3 j hj))).trans (h3 j hj)
theorem tail_len {l : List UInt8} (h : isB l = true) : (parts l).tail.length <= l.length:=by
 rcases cutE h with ⟨_,_,_,_,h1,_⟩ | ⟨_,_,_,_,h1,_⟩
 ·rw [h1]; exact Nat.zero_le _
 ·have:=congrArg List.length h1
  simp at this
  omega
theorem valE_ne {l D : List UInt8} {e p : Int} {b : Bool} (hd : digsD l = D) (hne : D ≠ []) (hp : p = powD l e) (hn : negL l = b) : valE l e = ⟨b,D,p⟩:=by
 unfold valE
 rw [if_neg (by rw [hd]; exact hne),hd,hp,hn]
theorem okV_no {v : Val} (h : 999 < v.pow \/ v.pow < -999 \/ 30 < (formL v).length) : okV v = false:=by
 unfold okV
 exact decide_eq_false (by omega)
theorem okV_yes {v : Val} (h1 : v.pow <= 999) (h2 : -999 <= v.pow) (h3 : (formL v).length <= 30) : okV v = true:=by
 unfold okV
 exact decide_eq_true (by omega)
def lenAt (b : Nat) (w : World) : Nat:=match w.cell? ⟨b,1,none⟩ with | some (.slice _ n _) => n | _ => 0
theorem lenAt_of {b : Nat} {w : World} {A : Option Addr} {n c : Nat} (h : w.cell? ⟨b,1,none⟩ = some (.slice A n c)) : lenAt b w = n:=by unfold lenAt; rw [h]
def RPost (l : List UInt8) (w : World) (e : Ending) (w' : World) : Prop:=Below w.heap.size w w' /\
 match readL l with
 | some v => ∃ slv,e = .returned (.tuple #[.agg #[.bool v.neg,slv,.int .i64 v.pow],.bool true]) /\ IRead w' slv (dIs v.digs)
 | none => e = .returned (.tuple #[.agg #[.bool false,.slice none 0 0,.int .i64 0],.bool false])
theorem readL_sat {l : List UInt8} (h : isB l = true) : readL l = readE l (esat (parts l).tail):=by
 unfold readL
 refine (readE_near l _ _ ?_).symm
 rcases tail_ok h with h1 | h1
 ·rw [h1]; exact .inl rfl
 ·exact near_sat _ h1
theorem rpost_zero {l : List UInt8} {w w' : World} {e : Ending} (hi : isB l = true) (hl : l.length <= 30) (hd : digsD l = []) (hb : Below w.heap.size w w')
 (he : e = .returned (.tuple #[.agg #[.bool false,.slice none 0 0,.int .i64 0],.bool true])) : RPost l w e w':=by
 refine ⟨hb,?_⟩
 have h1 : readL l = some ⟨false,[],0⟩:=by
  unfold readL readE
  rw [if_pos ⟨hi,hl⟩]
  have : valE l (eexp (parts l).tail) = ⟨false,[],0⟩:=by unfold valE; rw [if_pos hd]
  rw [this,if_pos (by decide)]
 rw [h1]
 exact ⟨_,he,none,0,rfl,fun h => absurd h (by simp [dIs])⟩
theorem rpost_no {l : List UInt8} {w w' : World} {e : Ending} (hi : isB l = true) (hv : okV (valE l (esat (parts l).tail)) = false) (hb : Below w.heap.size w w')
 (he : e = .returned (.tuple #[.agg #[.bool false,.slice none 0 0,.int .i64 0],.bool false])) : RPost l w e w':=by
 refine ⟨hb,?_⟩
 have h1 : readL l = none:=by
  rw [readL_sat hi]
  unfold readE
  rw [hv]
  simp
 rw [h1]
 exact he
theorem rpost_none {l : List UInt8} {w w' : World} {e : Ending} (hi : ¬ (isB l = true /\ l.length <= 30)) (hb : Below w.heap.size w w')
 (he : e = .returned (.tuple #[.agg #[.bool false,.slice none 0 0,.int .i64 0],.bool false])) : RPost l w e w':=by
 refine ⟨hb,?_⟩
 have h1 : readL l = none:=by
  unfold readL readE
  rw [if_neg hi]
 rw [h1]
 exact he
theorem rpost_yes {l : List UInt8} {w w' : World} {e : Ending} {v : Val} {slv : Value} (hi : isB l = true) (hl : l.length <= 30) (hv : valE l (esat (parts l).tail) = v) (hk : okV v = true) (hb : Below w.heap.size w w')
 (he : e = .returned (.tuple #[.agg #[.bool v.neg,slv,.int .i64 v.pow],.bool true])) (hr : IRead w' slv (dIs v.digs)) : RPost l w e w':=by
 refine ⟨hb,?_⟩
 have h1 : readL l = some v:=by
  rw [readL_sat hi]
  unfold readE
  rw [if_pos ⟨hi,hl⟩,hv,if_pos hk]
 rw [h1]
 exact ⟨_,he,hr⟩
theorem trimL_cons (D : List UInt8) (b : UInt8) : Lib.trimLeftB (b :: D) 48 = if b = 48 then Lib.trimLeftB D 48 else b :: D:=by
 unfold Lib.trimLeftB
 rw [List.dropWhile_cons]
 by_cases h : b = 48
 ·subst h; simp
 ·have : (b == 48) = false:=by simpa using h
  rw [this,if_neg h]
  simp
theorem loop4_start {l D : List UInt8} {p PW E : Int} (h1 : rightD l = D) (h2 : p + D.length = PW + (allD l).length) (h3 : D.all dig = true) (hE : esat (parts l).tail = E) (hP : -((parts l).part.length : Int) + E = PW) :
 digsD l = Lib.trimLeftB D 48 /\ p = powD l (esat (parts l).tail) /\ D.all dig = true:=by
 refine ⟨?_,?_,h3⟩
 ·unfold digsD; rw [h1]
 ·unfold powD; rw [h1,hE]; omega
set_option maxHeartbeats 4000000 in
theorem rread_is (s : ByteArray) (w : World) (hs : s.size <= 30) (his : isB s.data.toList = true) :
 Calls Tryz.prog 172 #[.string s] w (RPost s.data.toList w):=by
 have hps:=parts_any s
 unfold partsA at hps
 rw [parts_begins,parts_is,his] at hps
 have HPS:=Lib.hid hps
 have hWF:=parts_len s.data.toList
 rw [show s.data.toList.length = s.size from by simp] at hWF
 have hW1 : (⟨(parts s.data.toList).whole.toArray⟩ : ByteArray).size <= 30:=by rw [size_of]; omega
 have hF1 : (⟨(parts s.data.toList).part.toArray⟩ : ByteArray).size <= 30:=by rw [size_of]; omega
 have hF2 : (parts s.data.toList).part.length <= 30:=by omega
 have hpos : 0 < s.size:=by
  rcases Nat.eq_zero_or_pos s.size with h | h
  ·have hnil : s.data.toList = []:=List.eq_nil_of_length_eq_zero (by simpa using h)
   rw [hnil] at his
   cases his
  ·exact h
 have hneg : ((s[0].toNat : Int) == 45) = negL s.data.toList:=by
  obtain ⟨c,h1,h2⟩:=drop_at (l:=s.data.toList) (k:=0) (by simpa using hpos)
  rw [b_at s 0 hpos] at h2
  rw [List.drop_zero] at h1
  rw [h1]
  unfold negL
  rw [<- h2]
  rw [Bool.eq_iff_iff]
  simp
  omega
 generalize hng : negL s.data.toList = ng at hneg
 have HNG:=Lib.hid hng
 have HIS:=Lib.hid his
 clear hps hng his
 go_enter Tryz.func172,Tryz.ntmps172
 go_wp2_with (fail)
 refine (HPS.out _ (by omega)).mono ?_
 rintro e w1 ⟨rfl,n,rfl⟩
 go_wp2_with (fail)
 have hDA : (⟨(parts s.data.toList).whole.toArray⟩ ++ ⟨(parts s.data.toList).part.toArray⟩ : ByteArray).data.toList = allD s.data.toList:=by simp [allD]
 have hDB : (⟨(parts s.data.toList).whole.toArray⟩ ++ ⟨(parts s.data.toList).part.toArray⟩ : ByteArray).size <= 30:=by
  rw [ByteArray.size_append,size_of,size_of]; omega
 have HDA:=Lib.hid hDA
 have hall : (⟨(parts s.data.toList).whole.toArray⟩ ++ ⟨(parts s.data.toList).part.toArray⟩ : ByteArray).data.toList.all dig = true:=by rw [hDA]; exact allD_dig HIS.out
 clear hDA
 generalize (⟨(parts s.data.toList).whole.toArray⟩ ++ ⟨(parts s.data.toList).part.toArray⟩ : ByteArray) = DA at HDA hDB hall ⊢
 go_loopw [11] (fun i wr => ∃ (k : Nat) (slv : Value),k <= DA.size /\ i = .int .i64 k /\ RS w wr ng slv 0 /\ ORow wr (w.heap.size + 2) 3 slv ((dIs (DA.data.toList.take k)).map iV)) (fun i _ => DA.size - (intOf i).toNat)
 case atStart =>
  refine ⟨0,_,Nat.zero_le _,rfl,⟨?_,?_,?_⟩,ORow.nil _ _ _⟩
  ·exact ((Blk.new w _ _).alloc _).drewN n
  ·have:=Blk.new (w.alloc (.cells #[.bool false,.slice none 0 0,.int .i64 0] 180)) 180 #[.bool ng,.slice none 0 0,.int .i64 0]
   have h2 : Blk ((w.alloc (.cells #[.bool false,.slice none 0 0,.int .i64 0] 180)).alloc (.cells #[.bool ng,.slice none 0 0,.int .i64 0] 180)) (w.heap.size + 1) 180 #[.bool ng,.slice none 0 0,.int .i64 0]:=by simpa using this
   exact h2.drewN n
  ·exact below_drewN (((Below.refl _ _).alloc (Nat.le_refl _) _).alloc (by simp) _) n
 case round =>
  obtain ⟨k,slv,hk,rfl,hrs,hown⟩:=hrel
  have c0:=hrs.c0
  have c1:=hrs.c1
  have c2:=hrs.c2
  have f1:=hrs.f1
  have f2:=hrs.f2
  have hsz:=hrs.bel.size
  have hlt2:=hrs.v.lt
  by_cases hlt : k < DA.size
  ·have hki : (k : Int) < DA.size:=by omega
   have hbv:=hb_byte DA k hlt hall
   obtain ⟨hv1,hv2⟩:=hbv
   have hol : ((dIs (DA.data.toList.take k)).map iV).length <= 30:=by simp [dIs]; omega
   have HSN:=Lib.hid (dIs_snoc DA k hlt)
   have hw8 : IntKind.u8.wrap ((DA[k].toNat : Int) - 48) = (DA[k].toNat : Int) - 48:=IntWalk.u8_in _ (by omega)
   have hw64 : IntKind.i64.wrap ((DA[k].toNat : Int) - 48) = (DA[k].toNat : Int) - 48:=IntWalk.i64_in _ (by omega)
   go_wp2_with (fail)
   go_region_law ((refine step_appC (by rfl) (.tmp 45) (.tmp 51) 27 (by rfl) (w.heap.size + 2) 3 (.int .i64 0) 8 Tryz.underlying27 Tryz.info3 (by rfl) slv _ (.int .i64 ((DA[k].toNat : Int) - 48)) (by rfl) (by first | exact (hown.alloc _).drew | exact hown | exact hown.drew | exact hown.alloc _) (by rfl) _ _ (by rfl) (by simp) (by simp only [maxLen]; omega) (by omega) (by simp; omega) ?_; intro v2 w2 hown2 hb2; have hrs2:=hrs.nextB ((by repeat (first | exact Below.refl _ _ | refine below_drewN ?_ _ | refine below_drew ?_ | refine Below.alloc ?_ (by omega) _) : Below (w.heap.size + 2) wr _).trans hb2); have d1:=hrs2.c1; have d2:=hrs2.f1; obtain ⟨A2,cp2,rfl⟩:=hown2.shape))
   all_goals
    clear hw8 hw64
    simp only [List.length_append,List.length_map,List.length_cons,List.length_nil,Nat.zero_add] at hown2
    go_wp2
    go_roundw
    case rel => exact ⟨k + 1,_,by omega,by go_num,hrs2.set1 _,by rw [HSN.out]; exact hown2.set_far (p:=⟨w.heap.size + 1,1,none⟩) (by show w.heap.size + 1 < w.heap.size + 2; omega) _⟩
    case measure => simp [intOf]; omega
  ·have hkk : DA.data.toList.take k = allD s.data.toList:=by rw [List.take_of_length_le (by simp; omega),HDA.out]
   rw [hkk] at hown
   have hkf : ¬ ((k : Int) < DA.size):=by omega
   have hDl : (allD s.data.toList).length = DA.size:=by rw [<- HDA.out]; simp
   have HDL:=Lib.hid hDl
   clear hkk hDl
   obtain ⟨TB,hTB⟩ : ∃ TB : ByteArray,TB = ⟨(parts s.data.toList).tail.toArray⟩:=⟨_,rfl⟩
   have hTBl : TB.data.toList = (parts s.data.toList).tail:=by rw [hTB]
   have hTBs : TB.size <= 140737488355328:=by
    have h1 : TB.data.toList.length = TB.size:=by simp
    have h2:=tail_len HIS.out
    rw [hTBl] at h1
    rw [show s.data.toList.length = s.size from by simp] at h2
    omega
   rw [<- hTB]
   have HTB:=Lib.hid hTBl
   clear hTB hTBl
   go_wp2
   go_loop [12,13,14] (fun d q i => ∃ k : Nat,k <= TB.size /\ i = .int .i64 k /\ d = .bool (dnL (TB.data.toList.take k)) /\ q = .int .i64 (satN 0 (TB.data.toList.take k))) (fun _ _ i => TB.size - (intOf i).toNat)
   case atStart => exact ⟨0,Nat.zero_le _,rfl,rfl,rfl⟩
   case round =>
    obtain ⟨k2,hk2,rfl,rfl,rfl⟩:=hrel
    have hqle:=satN_le (TB.data.toList.take k2) 0 (by omega)
    by_cases hlt2 : k2 < TB.size
    ·have htk : TB.data.toList.take (k2 + 1) = TB.data.toList.take k2 ++ [TB[k2]]:=by
      rw [List.take_succ_eq_append_getElem (by simpa using hlt2)]; rfl
     have hdn:=dnL_snoc (TB.data.toList.take k2) TB[k2]
     have hsn:=satN_snoc 0 (TB.data.toList.take k2) TB[k2]
     rw [<- htk] at hdn hsn
     generalize dnL (TB.data.toList.take k2) = dn at hdn ⊢
     generalize satN 0 (TB.data.toList.take k2) = q at hsn hqle ⊢
     have hqi : (q : Int) <= 17592186044416:=by omega
     have hki2 : (k2 : Int) < TB.size:=by omega
     by_cases hm : (TB[k2].toNat : Int) = 45
     ·have hmb : ((TB[k2].toNat : Int) == 45) = true:=by rw [hm]; rfl
      have hnd : dig TB[k2] = false:=by rw [dig_not]; omega
      rw [decide_eq_true (by omega),Bool.or_true] at hdn
      rw [satStep_no (by rw [hnd]; simp)] at hsn
      have h48 : (TB[k2].toNat : Int) < 48:=by omega
      have HDN:=Lib.hid hdn
      have HSN:=Lib.hid hsn
      clear hdn hsn hm hnd htk
      go_wp2
      all_goals
       go_round
       case rel => exact ⟨k2 + 1,by omega,by go_num,by rw [HDN.out],by rw [HSN.out]⟩
       case measure => simp [intOf]; omega
     ·have hmb : ((TB[k2].toNat : Int) == 45) = false:=by rw [beq_eq_false_iff_ne]; exact hm
      rw [decide_eq_false (by omega),Bool.or_false] at hdn
      by_cases hd : dig TB[k2] = true /\ q < B40
      ·rw [satStep_yes hd.1 hd.2] at hsn
       have hrg:=dig_range hd.1
       have h1 : 48 <= (TB[k2].toNat : Int):=by omega
       have h2 : (TB[k2].toNat : Int) <= 57:=by omega
       have h3 : (q : Int) < 1099511627776:=by have:=hd.2; unfold B40 at this; omega
       have HDN:=Lib.hid hdn
       have HSN:=Lib.hid hsn
       clear hdn hsn hm hd hrg htk hqle
       go_wp2
       go_round
       case rel => exact ⟨k2 + 1,by omega,by go_num,by rw [HDN.out],by rw [HSN.out]; congr 1; omega⟩
       case measure => simp [intOf]; omega
      ·rw [satStep_no hd] at hsn
       have hcase : (TB[k2].toNat : Int) < 48 \/ (48 <= (TB[k2].toNat : Int) /\ 57 < (TB[k2].toNat : Int)) \/ (48 <= (TB[k2].toNat : Int) /\ (TB[k2].toNat : Int) <= 57 /\ ¬ ((q : Int) < 1099511627776)):=by
        cases hdg : dig TB[k2]
        ·rw [dig_not] at hdg; omega
        ·have hrg:=dig_range hdg
         have : ¬ q < B40:=fun h => hd ⟨hdg,h⟩
         unfold B40 at this
         omega
       have HDN:=Lib.hid hdn
       have HSN:=Lib.hid hsn
       clear hdn hsn hm hd htk
       rcases hcase with h1 | ⟨h1,h2⟩ | ⟨h1,h2,h3⟩
       all_goals
        go_wp2
        go_round
        case rel => exact ⟨k2 + 1,by omega,by go_num,by rw [HDN.out],by rw [HSN.out]⟩
        case measure => simp [intOf]; omega
    ·have htk : TB.data.toList.take k2 = (parts s.data.toList).tail:=by rw [List.take_of_length_le (by simp; omega),HTB.out]
     rw [htk] at hqle ⊢
     have hdn : dnL (parts s.data.toList).tail = negL (parts s.data.toList).tail:=dnL_tail (tail_ok HIS.out)
     rw [hdn]
     obtain ⟨E,hE,hE1,hE2⟩ : ∃ E : Int,esat (parts s.data.toList).tail = E /\ -17592186044416 <= E /\ E <= 17592186044416:=⟨_,rfl,by unfold esat; split <;> omega,by unfold esat; split <;> omega⟩
     have hE3:=hE
     unfold esat at hE3
     generalize satN 0 (parts s.data.toList).tail = q at hqle hE3 ⊢
     have HE:=Lib.hid hE
     have hki2 : ¬ ((k2 : Int) < TB.size):=by omega
     clear htk hdn hE
     have hrs3:=(hrs.set2 (-((parts s.data.toList).part.length : Int))).set2 (-((parts s.data.toList).part.length : Int) + E)
     have hown3:=IRF.of_row ((hown.set_far (p:=⟨w.heap.size + 1,2,none⟩) (by show w.heap.size + 1 < w.heap.size + 2; omega) (.int .i64 (-((parts s.data.toList).part.length : Int)))).set_far (p:=⟨w.heap.size + 1,2,none⟩) (by show w.heap.size + 1 < w.heap.size + 2; omega) (.int .i64 (-((parts s.data.toList).part.length : Int) + E)))
     generalize hnt : negL (parts s.data.toList).tail = nt at hE3 ⊢
     clear hnt
     cases nt
     case' false =>
      have hqE : (q : Int) = E:=by simpa using hE3
      have HQE:=Lib.hid hqE
      clear hqE hE3
      go_wp2
      rw [HQE.out]
     case' true =>
      have hqE : -(q : Int) = E:=by simpa using hE3
      have HQE:=Lib.hid hqE
      clear hqE hE3
      go_wp2
      rw [HQE.out]
     all_goals
      have hPB : -17592186044500 <= -((parts s.data.toList).part.length : Int) + E /\ -((parts s.data.toList).part.length : Int) + E <= 17592186044500:=by omega
      obtain ⟨hPB1,hPB2⟩:=hPB
      generalize hPW : -((parts s.data.toList).part.length : Int) + E = PW at hrs3 hown3 hPB1 hPB2 ⊢
      have HPW:=Lib.hid hPW
      clear hPW
      generalize World.setCell _ _ (Value.int .i64 PW) = w3 at hrs3 hown3 ⊢
      have hal:=HDL.out
      go_loopw [] (fun wx => ∃ (D : List UInt8) (sl : Value) (p : Int),RS w wx ng sl p /\ IRF wx (w.heap.size + 2) sl (dIs D) /\ D.length <= 30 /\ Hid (rightD s.data.toList = Lib.trimRightB D 48 /\ p + D.length = PW + (allD s.data.toList).length /\ D.all dig = true)) (fun wx => lenAt (w.heap.size + 1) wx)
      case atStart => exact ⟨_,slv,PW,hrs3,hown3,by omega,Lib.hid ⟨rfl,rfl,allD_dig HIS.out⟩⟩
      case round =>
       obtain ⟨D,sl,p,hrs4,hf4,hdl,HI4⟩:=hrel
       obtain ⟨hi1,hi2,hi3⟩:=HI4.out
       have hpb1 : -17592186044600 <= p:=by omega
       have hpb2 : p <= 17592186044600:=by omega
       rcases snoc_cases D with hD | ⟨D0,b,hD⟩
       case' inl =>
        subst hD
        obtain ⟨A,c,rfl⟩:=hf4.nil
        have c1:=hrs4.c1
        have HI6:=Lib.hid (loop4_start (l:=s.data.toList) (D:=[]) hi1 hi2 rfl HE.out HPW.out)
        go_wp2
       case' inr =>
        subst hD
        obtain ⟨ad,c,rfl,hcc,hcell,hf5⟩:=hf4.snoc
        have c1:=hrs4.c1
        have c2:=hrs4.c2
        have f1:=hrs4.f1
        have f2:=hrs4.f2
        have hdl2 : D0.length <= 30:=by simp at hdl; omega
        by_cases hb : b = 48
        case' pos =>
         subst hb
         have hnext : rightD s.data.toList = Lib.trimRightB D0 48 /\ (p + 1) + D0.length = PW + (allD s.data.toList).length /\ D0.all dig = true:=by
          refine ⟨?_,?_,?_⟩
          ·rw [hi1,trimR_snoc,if_pos rfl]
          ·rw [List.length_append] at hi2; simp at hi2; omega
          ·rw [List.all_append,Bool.and_eq_true] at hi3; exact hi3.1
         have HN4:=Lib.hid hnext
         have hz : dI 48 = 0:=by decide
         rw [hz] at hcell
         have hm0 : 0 < (D0.length : Int) + 1:=by omega
         have hlen0:=lenAt_of c1
         have HL0:=Lib.hid hlen0
         clear hi1 hi2 hi3 hnext hz hlen0
         go_wp2
         go_roundw
         case rel => exact ⟨D0,_,p + 1,(hrs4.set1 _).set2 _,(hf5.set (p:=⟨w.heap.size + 1,1,none⟩) (by show w.heap.size + 1 < w.heap.size + 2; omega) _).set (p:=⟨w.heap.size + 1,2,none⟩) (by show w.heap.size + 1 < w.heap.size + 2; omega) _,hdl2,HN4⟩
         case measure =>
          rw [HL0.out,lenAt_of ((hrs4.set1 _).set2 (p + 1)).c1]
          omega
        case' neg =>
         have hbd : dig b = true:=by
          rw [List.all_append,Bool.and_eq_true] at hi3
          simpa using hi3.2
         have hbz:=dI_48 b hb hbd
         have hbf : (dI b == 0) = false:=by rw [beq_eq_false_iff_ne]; omega
         generalize dI b = db at hbf hcell
         have hm0 : 0 < (D0.length : Int) + 1:=by omega
         have HI6:=Lib.hid (loop4_start (l:=s.data.toList) (D:=D0 ++ [b]) (by rw [hi1,trimR_snoc,if_neg hb]) hi2 hi3 HE.out HPW.out)
         go_wp2
       all_goals
        clear hi1 hi2 hi3
        go_loopw [] (fun wx => ∃ (D : List UInt8) (sl : Value),RS w wx ng sl p /\ IRF wx (w.heap.size + 2) sl (dIs D) /\ D.length <= 30 /\ Hid (digsD s.data.toList = Lib.trimLeftB D 48 /\ p = powD s.data.toList (esat (parts s.data.toList).tail) /\ D.all dig = true)) (fun wx => lenAt (w.heap.size + 1) wx)
        case atStart => exact ⟨_,_,hrs4,hf4,hdl,HI6⟩
        case round =>
         clear HI6 hrs4 hf4 hdl
         obtain ⟨D,sl,hrs4,hf4,hdl,HI6⟩:=hrel
         cases D with
         | nil =>
          obtain ⟨A,c,rfl⟩:=hf4.nil
          have c1:=hrs4.c1
          have r0:=hrs4.r0
          have r1:=hrs4.r1
          have r2:=hrs4.r2
          have g0:=hrs4.g0
          have g1:=hrs4.g1
          have g2:=hrs4.g2
          go_wp2
          (try simp only [Exit.inBlock,Exit.then])
          refine bodyPost_ret (v:=.tuple #[.agg #[.bool false,.slice none 0 0,.int .i64 0],.bool true]) (by simp [results,Tryz.results172,go_sem,r0,r1,r2]) rfl (rpost_zero HIS.out (by simpa using hs) (by rw [HI6.out.1]; rfl) ?_ rfl)
          repeat (first | exact hrs4.bel | refine Below.setCell ?_ (by simp) _)
         | cons b D0 =>
          obtain ⟨ad,c,rfl,hcc,hcell,hf5⟩:=hf4.cons
          have c1:=hrs4.c1
          have c2:=hrs4.c2
          have f1:=hrs4.f1
          have f2:=hrs4.f2
          have hdl2 : D0.length <= 30:=by simp at hdl; omega
          have hm0 : 0 < (D0.length : Int) + 1:=by omega
          obtain ⟨hj1,hj2,hj3⟩:=HI6.out
          by_cases hb : b = 48
          ·subst hb
           have hnext : digsD s.data.toList = Lib.trimLeftB D0 48 /\ p = powD s.data.toList (esat (parts s.data.toList).tail) /\ D0.all dig = true:=by
            refine ⟨?_,hj2,?_⟩
            ·rw [hj1,trimL_cons,if_pos rfl]
            ·rw [List.all_cons,Bool.and_eq_true] at hj3; exact hj3.2
           have HN4:=Lib.hid hnext
           have hz : dI 48 = 0:=by decide
           rw [hz] at hcell
           have hlen0:=lenAt_of c1
           have HL0:=Lib.hid hlen0
           clear hj1 hj2 hj3 hnext hz hlen0
           by_cases hc1 : c = 1
           ·subst hc1
            obtain rfl : D0 = []:=List.eq_nil_of_length_eq_zero (by omega)
            rw [if_pos rfl] at hf5
            go_wp2
            go_roundw
            case rel => exact ⟨[],_,hrs4.set1 _,hf5.set (p:=⟨w.heap.size + 1,1,none⟩) (by show w.heap.size + 1 < w.heap.size + 2; omega) _,hdl2,HN4⟩
            case measure =>
             rw [HL0.out,lenAt_of (hrs4.set1 _).c1]
             omega
           ·rw [if_neg hc1,show ad.add 1 = ⟨ad.block,ad.off + 1,none⟩ from by simp [Addr.add]] at hf5
            go_wp2
            go_roundw
            case rel => exact ⟨D0,_,hrs4.set1 _,hf5.set (p:=⟨w.heap.size + 1,1,none⟩) (by show w.heap.size + 1 < w.heap.size + 2; omega) _,hdl2,HN4⟩
            case measure =>
             rw [HL0.out,lenAt_of (hrs4.set1 _).c1]
             omega
          ·have hbd : dig b = true:=by
            rw [List.all_cons,Bool.and_eq_true] at hj3
            exact hj3.1
           have hbz:=dI_48 b hb hbd
           have hbf : (dI b == 0) = false:=by rw [beq_eq_false_iff_ne]; omega
           have HDG : Hid (digsD s.data.toList = b :: D0):=Lib.hid (by rw [hj1,trimL_cons,if_neg hb])
           clear hj1
           generalize dI b = db at hbf hcell
           have c0:=hrs4.c0
           have r0:=hrs4.r0
           have r1:=hrs4.r1
           have r2:=hrs4.r2
           have g0:=hrs4.g0
           have g1:=hrs4.g1
           have g2:=hrs4.g2
           have hne : ((D0.length : Int) + 1 == 0) = false:=by rw [beq_eq_false_iff_ne]; omega
           have hval : valE s.data.toList (esat (parts s.data.toList).tail) = ⟨ng,b :: D0,p⟩:=valE_ne HDG.out (by simp) hj2 HNG.out
           have HV:=Lib.hid hval
           have hbl:=hrs4.bel
           clear hj2 hval HI6
           by_cases hp1 : 999 < p
           ·go_wp2
            (try simp only [Exit.inBlock,Exit.then])
            refine bodyPost_ret (v:=.tuple #[.agg #[.bool false,.slice none 0 0,.int .i64 0],.bool false]) (by simp [results,Tryz.results172,go_sem,r0,r1,r2]) rfl (rpost_no HIS.out (by rw [HV.out]; exact okV_no (.inl hp1)) ?_ rfl)
            repeat (first | exact hbl | refine Below.setCell ?_ (by simp) _)
           ·by_cases hp2 : p < -999
            ·go_wp2
             (try simp only [Exit.inBlock,Exit.then])
             refine bodyPost_ret (v:=.tuple #[.agg #[.bool false,.slice none 0 0,.int .i64 0],.bool false]) (by simp [results,Tryz.results172,go_sem,r0,r1,r2]) rfl (rpost_no HIS.out (by rw [HV.out]; exact okV_no (.inr (.inl hp2))) ?_ rfl)
             repeat (first | exact hbl | refine Below.setCell ?_ (by simp) _)
            ·have HJ3:=Lib.hid hj3
             clear hj3
             go_wp2_with (fail)
             refine (rform_any ⟨ng,b :: D0,p⟩ (.slice (some ad) (D0.length + 1) c) _ ⟨by show -2147483648 <= p; omega,by show p <= 2147483648; omega⟩ (by show (b :: D0).length <= 1000; simp; omega) HJ3.out hf4.read).mono ?_
             rintro e w5 ⟨rfl,hb5⟩
             have hrs5:=hrs4.next hb5
             have hf6:=hf4.below hb5
             obtain ⟨FB,hFB⟩ : ∃ FB : ByteArray,FB = ⟨(formL ⟨ng,b :: D0,p⟩).toArray⟩:=⟨_,rfl⟩
             have hFs : (formL ⟨ng,b :: D0,p⟩).length = FB.size:=by rw [hFB,size_of]
             rw [<- hFB]
             have HFS:=Lib.hid hFs
             clear hFB hFs hbl c0 c1 c2 f1 f2 r0 r1 r2 g0 g1 g2 hcell hf5
             have c0:=hrs5.c0
             have c1:=hrs5.c1
             have c2:=hrs5.c2
             have r0:=hrs5.r0
             have r1:=hrs5.r1
             have r2:=hrs5.r2
             have g0:=hrs5.g0
             have g1:=hrs5.g1
             have g2:=hrs5.g2
             have hbl:=hrs5.bel
             by_cases hlen : 30 < (FB.size : Int)
             ·go_wp2
              (try simp only [Exit.inBlock,Exit.then])
              refine bodyPost_ret (v:=.tuple #[.agg #[.bool false,.slice none 0 0,.int .i64 0],.bool false]) (by simp [results,Tryz.results172,go_sem,r0,r1,r2]) rfl (rpost_no HIS.out (by rw [HV.out]; exact okV_no (.inr (.inr (by rw [HFS.out]; omega)))) ?_ rfl)
              repeat (first | exact hbl | refine Below.setCell ?_ (by simp) _)
             ·go_wp2
              (try simp only [Exit.inBlock,Exit.then])
              refine bodyPost_ret (v:=.tuple #[.agg #[.bool ng,.slice (some ad) (D0.length + 1) c,.int .i64 p],.bool true]) (by simp [results,Tryz.results172,go_sem,r0,r1,r2]) rfl (rpost_yes (slv:=.slice (some ad) (D0.length + 1) c) HIS.out (by simpa using hs) HV.out (okV_yes (by show p <= 999; omega) (by show -999 <= p; omega) (by rw [HFS.out]; omega)) ?_ rfl ?_)
              ·repeat (first | exact hbl | refine Below.setCell ?_ (by simp) _)
              ·exact (((hf6.set (p:=⟨w.heap.size,0,none⟩) (by show w.heap.size < w.heap.size + 2; omega) _).set (p:=⟨w.heap.size,1,none⟩) (by show w.heap.size < w.heap.size + 2; omega) _).set (p:=⟨w.heap.size,2,none⟩) (by show w.heap.size < w.heap.size + 2; omega) _).read
end Go.Proofs.YtbnppjmmlfncmaaGreatDoor.Nm
