/-
  carry: the one-line form (form, parts, Row).
  A range over a function whose rounds write memory, and which may stand in one another: what a round keeps is a relation; what the function turns between two rounds is told by the objects' kinds. No program is read here.
  'same' of two lists of whole numbers (hexaplalaw01).
  The contract of src's payload: the bits of a byte that tell of its character.
  src's Runes.
-/
import Derived.Test.YtbnppjmmlfncmaaGreatDoorIrA01
import Derived.Test.YtbnppjmmlfncmaaGreatDoorIrA09
import Derived.Test.YtbnppjmmlfncmaaGreatDoorIrA07
import Derived.Lib.AppendStr
import Derived.RangeFuncFrom
import Derived.RangeFuncNested
import Derived.RangeFuncCalls
import Derived.RangeFuncLeaves
import Derived.Test.YtbnppjmmlfncmaaGreatDoorIrA08
import Derived.Test.YtbnppjmmlfncmaaGreatDoorIrA04
import Derived.Test.YtbnppjmmlfncmaaGreatDoorIrA06
set_option maxRecDepth 100000
set_option linter.unusedSimpArgs false
namespace Go.Proofs.YtbnppjmmlfncmaaGreatDoor
open Go.RowKit Go.Maps
section
variable {P : Program} {w : World}
theorem bV_str (b : ByteArray) : Lib.strCells b = b.data.toList.map bV:=rfl
theorem own_str (base : Nat) (t u ty e : TypeId) (ht : P.underlying t = some (.slice e)) (hu : P.underlying u = some .string) (hinfo : (P.info? e).map (fun i => (i.zero,i.size,i.bytes)) = some (some (.int .u8 0),1,1))
 (v : Value) (xs : List UInt8) (hown : ORow w base e v (xs.map bV)) (b : ByteArray) (hb : xs.length + b.size <= 140737488355328) (hbase : base <= w.heap.size) :
 ∃ v' w',(Builtin.append_ #[t,u] ty #[v,.string b]).run P w = .ok v' w' /\ ORow w' base e v' ((xs ++ b.data.toList).map bV) /\ w.grownBy w' v.ownBlock /\ Below base w w':=by
 obtain ⟨i,hi,hz,hsize,hby⟩:=info_parts hinfo
 obtain ⟨v',w',h1,h2,h3,_⟩:=Lib.run_append_own_string (P:=P) (w:=w) base t u ty e i ht hu hi hz hsize hby v (xs.map bV).length (xs.map bV) hown b (by simp [maxLen]; omega) (by simp; omega) hbase
 refine ⟨v',w',h1,?_,h3,?_⟩
 ·unfold ORow
  rw [List.map_append,List.length_append,<- bV_str,Lib.strCells_length]
  exact h2
 ·refine ⟨h3.os,h3.tape,h3.output,h3.size,fun k hk => h3.block k (by omega) fun hcc => ?_⟩
  have:=World.ownsRow.lt hown k hcc.symm
  omega
theorem wp_appT {ops : Array Oper} {rest : List Oper} {o : Oper} {a : Act} {Q : Exit -> Act -> World -> Prop} (hgd : o.guard = none) (s x : Operand) (t u : TypeId)
 (ho : o.op = .call { callee:=.builtin .append,args:=#[s,x],argTypes:=#[t,u] })
 (base : Nat) (e : TypeId) (ht : P.underlying t = some (.slice e)) (hu : P.underlying u = some .string) (hinfo : (P.info? e).map (fun i => (i.zero,i.size,i.bytes)) = some (some (.int .u8 0),1,1))
 (v : Value) (xs : List UInt8) (hs : a.eval s = v) (hown : ORow w base e v (xs.map bV)) (b : ByteArray) (hx : a.eval x = .string b) (hb : xs.length + b.size <= 140737488355328) (hbase : base <= w.heap.size)
 (h : ∀ v' w',ORow w' base e v' ((xs ++ b.data.toList).map bV) -> w.grownBy w' v.ownBlock -> Below base w w' -> wpList P ops Q rest (a.put o.dst v') w') :
 wpList P ops Q (o :: rest) a w:=by
 refine wpList_plain hgd fun K hK => ?_
 obtain ⟨v',w',hrun,h2,h3,h4⟩:=own_str (P:=P) base t u o.type e ht hu hinfo v xs hown b hb hbase
 unfold Oper.wp execOp
 simp only [ho,resolve,invoke,builtin,Sem.run_bind,Sem.run_pure,Result.andThen_ok,List.map_toArray,List.map_cons,List.map_nil,hs,hx,hrun]
 exact hK _ _ (h v' w' h2 h3 h4)
theorem step_appTt {ops : Array Oper} {o : Oper} {a : Act} {K : Act -> World -> Prop} {Q : Exit -> Act -> World -> Prop} {E : Prop} (hgd : o.guard = none) (s x : Operand) (t u : TypeId)
 (ho : o.op = .call { callee:=.builtin .append,args:=#[s,x],argTypes:=#[t,u] })
 (base : Nat) (e : TypeId) (ht : P.underlying t = some (.slice e)) (hu : P.underlying u = some .string) (hinfo : (P.info? e).map (fun i => (i.zero,i.size,i.bytes)) = some (some (.int .u8 0),1,1))
 (v : Value) (xs : List UInt8) (hs : a.eval s = v) (hown : ORow w base e v (xs.map bV)) (b : ByteArray) (hx : a.eval x = .string b) (hb : xs.length + b.size <= 140737488355328) (hbase : base <= w.heap.size)
 (h : ∀ v' w',ORow w' base e v' ((xs ++ b.data.toList).map bV) -> w.grownBy w' v.ownBlock -> Below base w w' -> K (a.put o.dst v') w') :
 if Region.wanted o (yielded ops a.tmps) = true then Oper.wp P o a w K Q else E:=by
 have hw : Region.wanted o (yielded ops a.tmps) = true:=by simp [Region.wanted,hgd]
 rw [if_pos hw]
 obtain ⟨v',w',hrun,h2,h3,h4⟩:=own_str (P:=P) base t u o.type e ht hu hinfo v xs hown b hb hbase
 unfold Oper.wp execOp
 simp only [ho,resolve,invoke,builtin,Sem.run_bind,Sem.run_pure,Result.andThen_ok,List.map_toArray,List.map_cons,List.map_nil,hs,hx,hrun]
 exact h v' w' h2 h3 h4
end
def FormPost (base : Nat) (w : World) (l : List UInt8) (e : Ending) (w' : World) : Prop:=∃ v',e = .returned v' /\ ORow w' base 5 v' (l.map bV) /\ Below base w w'
def FormAt (n : Nd) : Prop:=∀ (base : Nat) (v : Value) (xs : List UInt8) (A : Option Addr) (c : Nat) (w : World),NAt (fun b _ => b < base) w n A c -> smallT n -> shaped n = true -> ORow w base 5 v (xs.map bV) -> base <= w.heap.size -> xs.length + sizeN n * 1048900 <= 100000000000 ->
    Calls Tryz.prog 38 #[v,.agg #[.int .i64 n.k,.string n.t,.string n.v,.slice A n.kids.length c]] w (FormPost base w (xs ++ rowN n))
theorem seq_at (l : List Nd) (b : Bool) (j : Nat) (h : j < l.length) : seqN b (l.take (j + 1)) = seqN b (l.take j) ++ ((if b = true /\ j = 0 then [] else [44,32]) ++ rowN (l.getD j dNd)):=by
 rw [List.take_succ_eq_append_getElem h,seqN_snoc,getDn h]
 congr 2
 have : l.take j = [] ↔ j = 0:=by
  rw [List.take_eq_nil_iff]
  constructor
  ·rintro (h1 | h1)
   ·exact h1
   ·subst h1; simp at h
  ·exact .inl
 simp only [this]
theorem sizeL_take : ∀ (l : List Nd) (j : Nat) (_ : j < l.length),sizeL (l.take j) + sizeN (l.getD j dNd) <= sizeL l
 | n :: r,0,_ => by simp [sizeL]
 | n :: r,j + 1,h => by
  have:=sizeL_take r j (by simpa using h)
  simp only [List.take_succ_cons,sizeL,List.getD_cons_succ]
  omega
theorem smallL_take : ∀ (l : List Nd) (j : Nat),smallL l -> smallL (l.take j)
 | [],_,_ => by simp [smallL]
 | n :: r,0,_ => trivial
 | n :: r,j + 1,h => ⟨h.1,smallL_take r j h.2⟩
theorem shapedL_mem : ∀ {l : List Nd}, shapedL l = true ↔ ∀ n ∈ l, shaped n = true
  | [] => by simp [shapedL]
  | n :: r => by simp only [shapedL, Bool.and_eq_true, shapedL_mem (l := r), List.mem_cons, forall_eq_or_imp]
set_option maxHeartbeats 4000000 in
theorem parts_any (l : List Nd) (ih : ∀ n ∈ l,FormAt n) (base : Nat) (v0 : Value) (xs : List UInt8) (op cl : UInt8) (k : Int) (t v : ByteArray) (A : Option Addr) (c : Nat) (w : World) (hA : NAt (fun b _ => b < base) w (.mk k t v l) A c) (hsm : smallL l) (hsh : shapedL l = true)
 (ho : ORow w base 5 v0 (xs.map bV)) (hbase : base <= w.heap.size) (hsz : xs.length + (1 + sizeL l) * 1048900 <= 100000000000) :
 Calls Tryz.prog 66 #[v0,.int .u8 (op.toNat : Int),.slice A l.length c,.int .u8 (cl.toNat : Int)] w (FormPost base w (xs ++ (op :: (seqN true l ++ [cl])))):=by
 obtain ⟨hlc,hcm,hkids⟩:=(NAt.def_ _ _ _).1 hA
 simp only [Nd.kids] at hlc hkids
 have hcm2 : c <= 9223372036854775807:=by simpa [maxLen] using hcm
 have HSL : Hid (∀ j,(seqN true (l.take j)).length <= sizeL (l.take j) * 1048900):=Lib.hid fun j => seqN_len _ (smallL_take l j hsm) true
 have HSE : Hid (l.take l.length = l):=Lib.hid List.take_length
 have HST : Hid (∀ j (h : j < l.length),sizeL (l.take j) + sizeN (l.getD j dNd) <= sizeL l):=Lib.hid (sizeL_take l)
 have HSA : Hid (∀ j (h : j < l.length),seqN true (l.take (j + 1)) = seqN true (l.take j) ++ ((if true = true /\ j = 0 then [] else [44,32]) ++ rowN (l.getD j dNd))):=Lib.hid (seq_at l true)
 have HSM : Hid (∀ j (h : j < l.length),smallT (l.getD j dNd) /\ shaped (l.getD j dNd) = true):=Lib.hid fun j h => by
  rw [getDn h]
  exact ⟨smallL_mem.1 hsm _ (List.getElem_mem h),shapedL_mem.1 hsh _ (List.getElem_mem h)⟩
 have hopu : (Value.int .u8 (op.toNat : Int)).oneCell' = true:=rfl
 have HA:=Lib.hid hA
 have HIH : Hid (∀ j (h : j < l.length),FormAt (l.getD j dNd)):=Lib.hid fun j h => by rw [getDn h]; exact ih _ (List.getElem_mem h)
 have hlw : Below base w w:=Below.refl _ _
 clear hA hsm hsh hkids ih
 go_enter Tryz.func66,Tryz.ntmps66
 go_wp2_with (first
  | (at_builtin; refine Qt.wp_appS rfl _ _ 39 rfl base 5 (.int .u8 0) 1 Tryz.underlying39 Tryz.info5 rfl _ _ [.int .u8 (op.toNat : Int)] rfl (by exact ho.alloc _) (by simp [Value.oneCell']) ⟨w.heap.size,0,none⟩ 1 1 rfl rfl (Qt.cells_new w [.int .u8 (op.toNat : Int)] 5) (by simp [maxLen]; omega) (by simp; omega) (by simp; omega) ?_; intro v2 w2 hown2 hb2))
 have HO2 : Hid (ORow w2 base 5 v2 ((xs ++ op :: seqN true (l.take 0)).map bV)):=Lib.hid (by
  have : (xs ++ op :: seqN true (l.take 0)).map bV = xs.map bV ++ [.int .u8 (op.toNat : Int)]:=by simp [seqN,bV]
  rw [this]
  exact hown2)
 have HB2 : Hid (Below base w w2):=Lib.hid ((hlw.alloc hbase _).trans hb2)
 clear hown2 hb2 ho hlw
 go_loopw [0,17] (fun v i wr => ∃ j : Nat,j <= l.length /\ i = .int .i64 (j : Int) /\ Hid (ORow wr base 5 v ((xs ++ op :: seqN true (l.take j)).map bV)) /\ Hid (Below base w wr)) (fun _ i _ => l.length - (intOf i).toNat)
 case atStart => exact ⟨0,Nat.zero_le _,rfl,HO2,HB2⟩
 case round =>
  obtain ⟨j,hj,rfl,HO,HW⟩:=hrel
  have hA':=HA.out.low (w':=wr) (fun q hq => HW.out.block q hq)
  obtain ⟨_,_,hkids⟩:=(NAt.def_ _ _ _).1 hA'
  simp only [Nd.kids] at hkids
  have hsj:=HSL.out j
  by_cases hlt : j < l.length
  case pos =>
   obtain ⟨b,o,rfl,hbo,hkid⟩:=hkids (by omega)
   have hk1:=hkid j hlt
   rw [<- getDn hlt] at hk1
   obtain ⟨B,cB,q0,q1,q2,q3,hn1⟩:=hk1
   have hjc : j < c:=by omega
   have hst:=HST.out j hlt
   have hsa:=HSA.out j hlt
   obtain ⟨hms,hmsh⟩:=HSM.out j hlt
   have hih:=HIH.out j hlt
   clear hkid hkids hA' HSE HST HSA HSM HIH HSL HO2 HB2
   unfold FormAt at hih
   generalize l.getD j dNd = kd at *
   obtain ⟨P,hP⟩ : ∃ P,xs ++ op :: seqN true (l.take j) = P:=⟨_,rfl⟩
   have hPl : P.length + sizeN kd * 1048900 + 1000 <= 100000000000:=by rw [<- hP]; simp only [List.length_append,List.length_cons]; omega
   have HN : Hid (∀ X,X = (if j = 0 then ([] : List UInt8) else [44,32]) -> xs ++ op :: seqN true (l.take (j + 1)) = (P ++ X) ++ rowN kd):=Lib.hid (by
    rintro X rfl
    rw [hsa,<- hP]
    simp [List.append_assoc])
   rw [hP] at HO
   clear hsa hst hsj hP
   have hwl:=Nat.le_trans hbase HW.out.size
   have alk:=al_nd wr #[.int .i64 kd.k,.string kd.t,.string kd.v,.slice B kd.kids.length cB]
   have bX:=Blk.new wr 24 #[.int .i64 kd.k,.string kd.t,.string kd.v,.slice B kd.kids.length cB]
   have hO1 : ORow _ base 5 _ (P.map bV):=HO.out.alloc (.cells #[.int .i64 kd.k,.string kd.t,.string kd.v,.slice B kd.kids.length cB] 24)
   have hne : ∀ g,(u0 : Value).ownBlock = some g -> g < wr.heap.size:=fun g hg => (World.ownsRow.lt HO.out g hg).2
   have HNW:=Lib.hid (hn1.below alk)
   by_cases hj0 : j = 0
   case pos =>
    have HZ:=Lib.hid (HN.out [] (by rw [if_pos hj0]))
    have hz : ¬ 0 < j:=by omega
    obtain ⟨x0,x1,x2,x3⟩:=nbox bX
    have hC:=hih base u0 P B cB _ HNW.out hms hmsh hO1 (Nat.le_trans hwl alk.size) (by omega)
    clear HN hih bX hn1 hO1 hj0
    go_wp2_with fail
    refine hC.mono ?_
    rintro e w3 ⟨v3,rfl,hO3,hB3⟩
    have HB3:=Lib.hid ((HW.out.trans (alk.mono hwl)).trans hB3)
    clear hB3 alk hC
    go_wp2
    go_roundw
    case rel => exact ⟨j + 1,by omega,by go_num,Lib.hid (by rw [HZ.out,List.append_nil]; exact hO3),HB3⟩
    case measure => first | (simp [intOf]; done) | (simp [intOf]; omega)
   case neg =>
    have HZ:=Lib.hid (HN.out [44,32] (by rw [if_neg hj0]))
    have hz : 0 < j:=by omega
    have hwa:=Nat.le_trans hwl alk.size
    clear HN hj0
    go_wp2_with (first
     | (at_builtin; refine wp_appT rfl _ _ 39 9 rfl base 5 Tryz.underlying39 Tryz.underlying9 Tryz.info5 _ P rfl hO1 ⟨#[44,32]⟩ rfl (show P.length + 2 <= _ by omega) hwa ?_; intro v2 w2 hown2 hg2 hb2; have bX2:=bX.grown hg2 (fun e => by have:=hne _ e.symm; omega); obtain ⟨x0,x1,x2,x3⟩:=nbox bX2))
    have hC:=hih base v2 (P ++ [44,32]) B cB w2 (HNW.out.low (fun q hq => hb2.block q hq)) hms hmsh hown2 (Nat.le_trans hwa hb2.size) (by simp only [List.length_append,List.length_cons,List.length_nil]; omega)
    have HBB:=Lib.hid ((HW.out.trans (alk.mono hwl)).trans hb2)
    clear hih bX hn1 hO1 bX2 hg2 hb2 hown2 alk
    go_wp2_with fail
    refine hC.mono ?_
    rintro e w3 ⟨v3,rfl,hO3,hB3⟩
    have HB3:=Lib.hid (HBB.out.trans hB3)
    clear hB3 hC
    go_wp2
    go_roundw
    case rel => exact ⟨j + 1,by omega,by go_num,Lib.hid (by rw [HZ.out]; exact hO3),HB3⟩
    case measure => first | (simp [intOf]; done) | (simp [intOf]; omega)
  case neg =>
   obtain rfl : j = l.length:=by omega
   have hse:=HSE.out
   rw [hse] at HO hsj
   clear hkids hA' hse
   have hwl:=Nat.le_trans hbase HW.out.size
   have hO1:=HO.out
   have hlen : (xs ++ op :: seqN true l).length + 1000 <= 100000000000:=by
    simp only [List.length_append,List.length_cons]
    omega
   obtain ⟨P,hP⟩ : ∃ P,xs ++ op :: seqN true l = P:=⟨_,rfl⟩
   have HP:=Lib.hid hP
   rw [hP] at hO1 hlen
   clear hP HO
   go_wp2_with (first
    | (at_builtin; refine Qt.wp_appS rfl _ _ 39 rfl base 5 (.int .u8 0) 1 Tryz.underlying39 Tryz.info5 rfl _ _ [.int .u8 (cl.toNat : Int)] rfl (by exact hO1.alloc _) (by simp [Value.oneCell']) ⟨wr.heap.size,0,none⟩ 1 1 rfl rfl (Qt.cells_new wr [.int .u8 (cl.toNat : Int)] 5) (by simp only [List.length_map,maxLen]; omega) (by simp only [List.length_map]; omega) (Nat.le_trans hwl (by simp)) ?_; intro v5 w5 hown5 hb5))
   have HO5 : Hid (ORow w5 base 5 v5 ((xs ++ op :: (seqN true l ++ [cl])).map bV)):=Lib.hid (by
    have : (xs ++ op :: (seqN true l ++ [cl])).map bV = P.map bV ++ [.int .u8 (cl.toNat : Int)]:=by rw [<- HP.out]; simp [bV]
    rw [this]
    exact hown5)
   have HB5 : Hid (Below base w w5):=Lib.hid ((HW.out.alloc hwl _).trans hb5)
   clear hown5 hb5 hO1
   go_wp2
   go_ret
   exact ⟨_,rfl,HO5.out,HB5.out⟩
open Go Go.RowKit
def isBk : Obj -> Bool
 | .loop _ => true
 | .deferred _ => true
 | _ => false
structure Kept (K : Nat -> Obj -> Prop) (W W' : World) : Prop where
 size : W.heap.size <= W'.heap.size
 same : ∀ k o,W.heap[k]? = some o -> K k o -> W'.heap[k]? = some o
section
variable {K : Nat -> Obj -> Prop} {W W' W'' : World}
theorem Kept.refl (K : Nat -> Obj -> Prop) (W : World) : Kept K W W:=⟨Nat.le_refl _,fun _ _ h _ => h⟩
theorem Kept.trans (h : Kept K W W') (k : Kept K W' W'') : Kept K W W'':=⟨Nat.le_trans h.size k.size,fun i o ho hc => k.same i o (h.same i o ho hc) hc⟩
theorem Kept.of_tch {B : Nat} {T : Obj -> Prop} (h : Tch B T W W') (hK : ∀ k o,K k o -> k < B \/ ¬ T o) : Kept K W W':=⟨h.size,fun k o ho hk => h.block k o ho ((hK k o hk).imp_right .inl)⟩
theorem Kept.of_below (h : Below W.heap.size W W') : Kept K W W':=⟨h.size,fun k _ ho _ => (h.block k (Array.getElem?_eq_some_iff.1 ho).1).trans ho⟩
theorem Kept.alloc (h : Kept K W W') (o : Obj) : Kept K W (W'.alloc o):=h.trans (Kept.of_below ((Below.refl _ _).alloc (Nat.le_refl _) _))
theorem Kept.alloc1 (K : Nat -> Obj -> Prop) (W : World) (o : Obj) : Kept K W (W.alloc o):=(Kept.refl K W).alloc o
theorem Kept.drew (h : Kept K W W') : Kept K W W'.drew:=⟨h.size,h.same⟩
theorem Kept.drewN (h : Kept K W W') (n : Nat) : Kept K W (W'.drewN n):=⟨h.size,h.same⟩
theorem Kept.mono {K' : Nat -> Obj -> Prop} (h : Kept K W W') (hk : ∀ k o,K' k o -> K k o) : Kept K' W W':=⟨h.size,fun k o ho hc => h.same k o ho (hk k o hc)⟩
theorem Kept.put {l : Nat} {o : Obj} (o' : Obj) (hl : W.heap[l]? = some o) (hn : ¬ K l o) : Kept K W (W.putObj l o') :=
 ⟨(grownBy_putObj' W l o').size,fun k o2 h2 hk => by
  by_cases e : k = l
  ·subst e; rw [hl] at h2; cases h2; exact absurd hk hn
  ·exact (World.putObj_heap_other e).trans h2⟩
theorem Kept.set_new (h : Kept K W W') {p : Addr} (hp : W.heap.size <= p.block) (u : Value) : Kept K W (W'.setCell p u) :=
 ⟨by simpa [World.setCell] using h.size,fun k o ho hk => (Below.heap_setCell W' p u k (by have:=(Array.getElem?_eq_some_iff.1 ho).1; omega)).trans (h.same k o ho hk)⟩
theorem Blk.kept {g : Nat} {t : TypeId} {cs : Array Value} (h : Blk W g t cs) (hk : Kept K W W') (hc : K g (.cells cs t (0,0))) : Blk W' g t cs:=hk.same _ _ h hc
theorem tch_put {B : Nat} {T : Obj -> Prop} {l : Nat} {o : Obj} (o' : Obj) (hB : B <= l) (hl : W.heap[l]? = some o) (ho : T o) : Tch B T W (W.putObj l o') :=
 Tch.of_grown (grownBy_putObj' W l o') hB (fun h => h) hl ho
theorem Tch.lower {B B' : Nat} {T : Obj -> Prop} (h : Tch B T W W') (hB : B' <= B) : Tch B' T W W':=⟨h.os,h.tape,h.output,h.size,fun k o ho hc => h.block k o ho (hc.imp_left fun h => Nat.lt_of_lt_of_le h hB)⟩
end
def Needs (C : Obj -> Prop) (b0 B : Nat) (k : Nat) (o : Obj) : Prop:=k < b0 \/ C o \/ (B <= k /\ isBk o = true)
def WalksAt (C T : Obj -> Prop) (F : Fence) (n : Nat) (P : Program) (f : Nat) (fa lb : Array Value) (x : Nat -> Array Value) (N : Nat) (b0 : Nat) (W : World) : Prop :=
 ∀ (l B : Nat) (K : Nat -> Obj -> Prop) (J : Nat -> World -> Prop) (Jx : World -> Prop),b0 <= B -> B <= W.heap.size -> (∀ k o,Needs C b0 B k o -> K k o) ->
  (∀ k A A',J k A -> Tch B T A A' -> J k A') -> (∀ A A',Jx A -> Tch B T A A' -> Jx A') ->
  (∀ m k W1,k < N -> J k W1 -> YieldAt F m P l (x k) W1 fun e W2 => Kept K W1 W2 /\ ((e = .returned (.bool true) /\ J (k + 1) W2) \/ (e = .returned (.bool false) /\ Jx W2))) ->
  J 0 W -> CallsIn F n P f (fa ++ #[.func (.yield l) #[] #[]] ++ lb) W fun e W2 => (∃ v,e = .returned v) /\ Kept K W W2 /\ (J N W2 \/ Jx W2)
theorem room_of_none {F : Fence} (hd : F.depth = none) (k : Nat) : F.room k:=fun d h => by rw [hd] at h; cases h
theorem roundIn_anyDepth {F : Fence} (hd : F.depth = none) {m m' : Nat} {P : Program} {l : Nat} {f : FuncId} {tmps : Array Value} {assign body : Code} {w : World} {R : Ending -> World -> Prop}
 (h : RoundIn F m P l f tmps assign body w R) : RoundIn F m' P l f tmps assign body w R:=⟨h.1,fun c cs _ => h.2 c cs (room_of_none hd _)⟩
def RoundOut (K : Nat -> Obj -> Prop) (I : Nat -> World -> Prop) (Ix : World -> Prop) (k : Nat) (W : World) (e : Exit) (_ : Act) (W2 : World) : Prop :=
 Kept K W W2 /\ ((e = .normal /\ I (k + 1) W2) \/ (e = .ret /\ Ix W2))
theorem range_rounds {C T : Obj -> Prop} (hT : ∀ o,isBk o = true -> T o) (hC : ∀ o,C o -> isBk o = false)
 {F : Fence} {n : Nat} {P : Program} {g : Operand} {ps : Array Tmp} {assign body : Code} {Q : Exit -> Act -> World -> Prop} {a : Act} {w : World}
 (hd : F.depth = none) (hro : F.round = none) {f : Nat} {fa lb : Array Value} (hg : a.eval g = .func (.func f) fa lb) (hF : F.fn f) (ef : ∀ args w,(callFunc f args).run P w = .ok (.enter f args) w)
 {x : Nat -> Array Value} {N : Nat} (hx : ∀ k,(x k).size = ps.size) {b0 : Nat} (hb0 : b0 <= w.heap.size) (K : Nat -> Obj -> Prop) (hK : ∀ k o,Needs C b0 w.heap.size k o -> K k o)
 (hv : ∀ o,WalksAt C T F (n - 1) P f fa lb x N b0 ((w.alloc (.deferred (some []))).alloc o))
 (I : Nat -> World -> Prop) (Ix : World -> Prop) (hI : ∀ k A A',I k A -> Tch w.heap.size T A A' -> I k A') (hX : ∀ A A',Ix A -> Tch w.heap.size T A A' -> Ix A') (h0 : I 0 w)
 (Ax : Nat -> Act -> World -> Prop) (hAx : ∀ k a' A A',Ax k a' A -> Tch w.heap.size T A A' -> Ax k a' A')
 (hassign : ∀ (l k : Nat) (W : World) (Kc : Act -> World -> Prop),k < N -> I k W -> (∀ a' W',Kept K W W' -> I k W' -> Ax k a' W' -> Kc a' W') ->
  assign.wpIn (F.inRound l) (n - 1 - 1) P (Exit.then Kc (fun _ _ _ => False)) { tmps:=(ps.zip (x k)).foldl (fun t (p,v) => t.setIfInBounds p v) a.tmps,defers:=[] } W)
 (hbody : ∀ (l k : Nat) (a' : Act) (W : World),k < N -> I k W -> Ax k a' W -> body.wpIn (F.inRound l) (n - 1 - 1) P (RoundOut K I Ix k W) a' W)
 (hdone : ∀ (D : Nat) (W : World),w.heap.size <= D -> Kept K w W -> I N W -> W.heap[D]? = some (.deferred (some [])) -> Q .normal { a with defers:={ target:=.collected D,args:=#[] } :: a.defers } W)
 (hstop : ∀ (D : Nat) (W : World),w.heap.size <= D -> Kept K w W -> Ix W -> W.heap[D]? = some (.deferred (some [])) -> Code.ret.wpIn F n P Q { a with defers:={ target:=.collected D,args:=#[] } :: a.defers } W) :
 (Code.rangeFunc g ps assign body).wpIn F n P Q a w:=by
 refine wpIn_rangeFunc fun fn hfn => ?_
 rw [hro]
 let R : LoopState -> Option Code -> Loop:=fun st pe => { state:=st,pending:=pe,fn,tmps:=a.tmps,params:=ps,assign,body,defers:=w.heap.size }
 let L:=w.heap.size + 1
 let At (st : LoopState) (pe : Option Code) (W : World) : Prop:=W.heap[L]? = some (.loop (R st pe)) /\ W.heap[w.heap.size]? = some (.deferred (some []))
 have turn : ∀ {st pe st' pe' W},At st pe W -> At st' pe' (W.putObj L (.loop (R st' pe'))):=fun h =>
  ⟨World.putObj_heap_same (Array.getElem?_eq_some_iff.1 h.1).1,(World.putObj_heap_other (by show w.heap.size ≠ w.heap.size + 1; omega)).trans h.2⟩
 have begun : At .ready none ((w.alloc (.deferred (some []))).alloc (.loop (R .ready none))):=by
  refine ⟨?_,(Below.heap_alloc _ _ _ (by simp)).trans (World.alloc_heap_new w _)⟩
  have:=World.alloc_heap_new (w.alloc (.deferred (some []))) (.loop (R .ready none))
  rwa [World.size_alloc] at this
 have hsz : ((w.alloc (.deferred (some []))).alloc (.loop (R .ready none))).heap.size = w.heap.size + 2:=by simp
 have tput : ∀ {st pe W} st' pe',At st pe W -> Tch w.heap.size T W (W.putObj L (.loop (R st' pe'))):=fun st' pe' h => tch_put _ (Nat.le_succ _) h.1 (hT _ rfl)
 have kat : ∀ {st pe W W'},At st pe W -> Kept K W W' -> At st pe W':=fun h hk => ⟨hk.same _ _ h.1 (hK _ _ (.inr (.inr ⟨Nat.le_succ _,rfl⟩))),hk.same _ _ h.2 (hK _ _ (.inr (.inr ⟨Nat.le_refl _,rfl⟩)))⟩
 have tat : ∀ {st pe W W'},At st pe W -> Tch (w.heap.size + 2) T W W' -> At st pe W':=fun h ht => ⟨ht.block _ _ h.1 (.inl (Nat.lt_succ_self _)),ht.block _ _ h.2 (.inl (by omega))⟩
 let K' : Nat -> Obj -> Prop:=fun k o => K k o /\ ¬ (k = L /\ isBk o = true)
 have kput : ∀ {st pe W} st' pe',At st pe W -> Kept K' W (W.putObj L (.loop (R st' pe'))):=fun st' pe' h => Kept.put _ h.1 fun hk => hk.2 ⟨rfl,rfl⟩
 refine ⟨L,[{ target:=.collected w.heap.size,args:=#[] }],_,{ target:=.fn (.func f) lb,args:=fa ++ #[.func (.yield L) #[] #[]] },_,f,fa ++ #[.func (.yield L) #[] #[]] ++ lb,_,
  run_enterLoop_outer _ _ _ _ _,(?_ : _ = Result.ok _ ((w.alloc (.deferred (some []))).alloc (.loop (R .ready none)))),fun f' hf' => ?_,(?_ : _ = Result.ok _ ((w.alloc (.deferred (some []))).alloc (.loop (R .ready none)))),fun h => (by rw [hd] at h; cases h),?_⟩
 ·simp only [resolve,hg]
  simp [go_sem,R,L]
 ·simp [Target.leads] at hf'
  subst hf'
  exact hF
 ·simp [invoke,go_sem,ef]
 refine (hv (.loop (R .ready none)) L (w.heap.size + 2) K' (fun k W => I k W /\ At .ready none W) (fun W => Ix W /\ At .done (some .ret) W) (by omega) (by rw [hsz]; exact Nat.le_refl _) ?_ ?_ ?_ ?_ ⟨hI _ _ _ h0 (((Tch.refl _ _ _).alloc _).alloc _),begun⟩).mono ?_
 ·rintro k o (h | h | ⟨h,hb⟩)
  ·exact ⟨hK _ _ (.inl h),fun e => by have : k = w.heap.size + 1:=e.1; omega⟩
  ·exact ⟨hK _ _ (.inr (.inl h)),fun e => by rw [hC o h] at e; exact absurd e.2 (by decide)⟩
  ·exact ⟨hK _ _ (.inr (.inr ⟨by omega,hb⟩)),fun e => by have : k = w.heap.size + 1:=e.1; omega⟩
 ·rintro k A A' ⟨hi,hat⟩ ht
  exact ⟨hI _ _ _ hi (ht.lower (by omega)),tat hat ht⟩
 ·rintro A A' ⟨hi,hat⟩ ht
  exact ⟨hX _ _ hi (ht.lower (by omega)),tat hat ht⟩
 ·-- one round
  rintro m k W hk ⟨hi,hat⟩
  refine ⟨fn,_,assign,body,run_yield (r:=R .ready none) hat.1 (hx k),roundIn_anyDepth hd (roundIn_of_wpIn (n:=n - 1 - 1) hfn (hassign L k W _ hk hi ?_))⟩
  intro a' Wa hka hia hax
  have hata:=kat hat hka
  refine ⟨_,run_beginRound (r:=R .ready none) hata.1 rfl,?_⟩
  have hb:=turn (st':=.busy) (pe':=none) hata
  have t1:=tput .busy none hata
  have k1 : Kept K' W (Wa.putObj L (.loop (R .busy none))):=(hka.mono fun _ _ h => h.1).trans (kput _ _ hata)
  refine wpIn_mono (hbody L k a' _ hk (hI k _ _ hia t1) (hAx k a' _ _ hax t1)) fun e a3 W3 hp => ?_
  obtain ⟨hk3,hp⟩:=hp
  have h3 : At .busy none W3:=kat hb hk3
  rcases hp with ⟨rfl,hi3⟩ | ⟨rfl,hi3⟩
  ·exact ⟨_,_,run_endRound none h3.1,(k1.trans (hk3.mono fun _ _ h => h.1)).trans (kput .ready none h3),.inl ⟨rfl,hI _ _ _ hi3 (tput .ready none h3),turn h3⟩⟩
  ·exact ⟨_,_,run_endRound (some .ret) h3.1,(k1.trans (hk3.mono fun _ _ h => h.1)).trans (kput .done (some .ret) h3),.inr ⟨rfl,hX _ _ hi3 (tput .done (some .ret) h3),turn h3⟩⟩
 ·-- behind it
  have back : ∀ {st pe W} st' pe',At st pe W -> Kept K' ((w.alloc (.deferred (some []))).alloc (.loop (R .ready none))) W -> Kept K w (W.putObj L (.loop (R st' pe'))):=fun st' pe' h hk => by
   have hk2:=hk.trans (kput st' pe' h)
   have hn : Kept K w ((w.alloc (.deferred (some []))).alloc (.loop (R .ready none))):=((Kept.refl _ _).alloc _).alloc _
   refine ⟨Nat.le_trans hn.size hk2.size,fun k o ho hc => hk2.same k o (hn.same k o ho hc) ⟨hc,fun e => ?_⟩⟩
   have h1 : k = w.heap.size + 1:=e.1
   have:=(Array.getElem?_eq_some_iff.1 ho).1
   omega
  rintro e W2 ⟨⟨v,rfl⟩,hk2,(⟨hi,hat⟩ | ⟨hi,hat⟩)⟩
  ·exact ⟨none,_,run_endLoop (r:=R .ready none) hat.1 (by simp [R]),hdone _ _ (Nat.le_refl _) (back _ _ hat hk2) (hI _ _ _ hi (tput _ _ hat)) (turn (st':=.exhausted) (pe':=none) hat).2⟩
  ·exact ⟨some .ret,_,run_endLoop (r:=R .done (some .ret)) hat.1 (by simp [R]),hstop _ _ (Nat.le_refl _) (back _ _ hat hk2) (hX _ _ hi (tput _ _ hat)) (turn (st':=.exhausted) (pe':=some .ret) hat).2⟩
open Go.RowKit
theorem pay_any (b : Int) (h0 : 0 <= b) (h1 : b <= 255) (w : World) :
 Calls Tryz.prog 167 #[.int .u8 b] w fun e w' => e = .returned (.int .i64 (payI b)) /\ w = w':=by
 have e6:=u8_and63 b h0 (show b < 256 by omega)
 have e5:=u8_and31 b h0 (show b < 256 by omega)
 have e4:=u8_and15 b h0 (show b < 256 by omega)
 have e3:=u8_and7 b h0 (show b < 256 by omega)
 go_enter Tryz.func167,Tryz.ntmps167
 go_wp2
 all_goals go_ret
 all_goals refine ⟨ret_int ?_,rfl⟩
 all_goals simp only [payI]
 all_goals repeat (first | rw [if_pos (by omega)] | rw [if_neg (by omega)])
theorem num_join (st : Rn) (h : RnInv st) (c : Int) (h0 : 0 <= c) (h1 : c <= 255) (hok : stOk st.l st.lo st.hi c = true) : bits .or .i64 (st.num * 64) (payI c) = st.num * 64 + payI c:=by
 rcases h with ⟨hl,hn⟩ | ⟨hl,hl3,hn0,hlo,hhi,h3,h2,h1'⟩
 ·have hp : 0 <= payI c /\ payI c < 128:=by unfold payI; repeat' split <;> omega
  rw [hn]
  exact bits_join .i64 63 (by decide) (fun n a b => by rw [IntKind.wrap_i64]; omega) 7 (0 * 64) (payI c) (by decide) (by decide) (by decide) hp.1 (by omega) (by omega)
 ·have hl0 : 0 < st.l:=by omega
  simp only [stOk,hl0,if_true,decide_eq_true_eq] at hok
  have hp : payI c = c % 64:=by unfold payI; rw [if_neg (by omega),if_pos (by omega)]
  have hb : st.num < 32768:=by
   rcases (show st.l = 1 \/ st.l = 2 \/ st.l = 3 from by omega) with h | h | h
   ·exact h1' h
   ·have:=h2 h; omega
   ·have:=h3 h; omega
  exact bits_join .i64 63 (by decide) (fun n a b => by rw [IntKind.wrap_i64]; omega) 6 (st.num * 64) (payI c) (by omega) (by omega) (by omega) (by omega) (by omega) (by omega)
set_option maxHeartbeats 1000000 in
theorem runes_any (s : ByteArray) (w : World) (hm : s.size <= 1099511627776) :
 Calls Tryz.prog 150 #[.string s] w (RunesPost w s.data.toList):=by
 go_enter Tryz.func150,Tryz.ntmps150
 go_wp2_with (first
  | (go_at_call 101; refine (new_any _).mono ?_; rintro e w' ⟨rfl,rfl⟩))
 go_loopw [4,6,11] (fun v nm i wr => ∃ (k : Nat) (st : Rn),k <= s.size /\ i = .int .i64 k /\ nm = .int .i64 st.num /\ ScanAt wr w.heap.size st.l st.lo st.hi /\ ORow wr (w.heap.size + 1) 3 v (st.out.map iV) /\ Below w.heap.size w wr /\ RnInv st /\ st.out.length <= k /\ Hid (runesL s.data.toList = runesGo st (s.data.toList.drop k))) (fun _ _ i _ => s.size - (intOf i).toNat)
 case atStart => exact ⟨0,rn0 [],Nat.zero_le _,rfl,rfl,Blk.new w _ _,ORow.nil _ _ _,(Below.refl _ _).alloc (Nat.le_refl _) _,.inl ⟨rfl,rfl⟩,by simp [rn0],Lib.hid rfl⟩
 case round =>
  obtain ⟨k,st,hk,rfl,rfl,hsc,hown,hbel,hinv,hlen,HR⟩:=hrel
  have hl03 : 0 <= st.l /\ st.l <= 3:=by rcases hinv with ⟨a,_⟩ | ⟨a,b,_⟩ <;> omega
  by_cases hlt : k < s.size
  ·have hle:=byte_le s[k]
   have hdc:=drop_cons s k hlt
   by_cases hok : stOk st.l st.lo st.hi s[k].toNat = true
   ·have HK:=Lib.hid hok
    have hj:=num_join st hinv s[k].toNat (by omega) hle hok
    clear hok
    go_wp2_with fail
    refine (step_any _ _ _ _ _ _ hsc hl03.1 hl03.2 (by omega) hle).mono ?_
    rintro e w1 ⟨rfl,hg1,hs1⟩
    rw [HK.out]
    rw [if_pos HK.out] at hs1
    have hnb : 0 <= st.num /\ st.num < 32768:=by
     rcases hinv with ⟨_,a⟩ | ⟨a,b,c,_,_,d3,d2,d1⟩
     ·omega
     ·refine ⟨c,?_⟩
      rcases (show st.l = 1 \/ st.l = 2 \/ st.l = 3 from by omega) with h | h | h
      ·exact d1 h
      ·have:=d2 h; omega
      ·have:=d3 h; omega
    obtain ⟨hn0,hn1⟩:=hnb
    have HJ:=Lib.hid hj
    clear hj
    go_wp2_with fail
    refine (pay_any _ (by omega) hle _).mono ?_
    rintro e w' ⟨rfl,rfl⟩
    go_wp2_with fail
    rw [HJ.out]
    have hrow1 : ORow w1 (w.heap.size + 1) 3 u4 (st.out.map iV):=hown.kept_far hg1 (by omega)
    have hbel1 : Below w.heap.size w w1:=below_only hbel hg1 hbel.size (Nat.le_refl _)
    have hbs1 : w.heap.size + 1 <= w1.heap.size:=by have:=hg1.size; have:=hsc.lt; omega
    have hgo : runesL s.data.toList = match rnStep st (s[k].toNat : Int) with | none => none | some s' => runesGo s' (s.data.toList.drop (k + 1)):=by rw [HR.out,hdc]; rfl
    have hle' : 0 <= (s[k].toNat : Int):=by omega
    clear hg1 hsc hown hbel hdc
    by_cases hz : stL st.l s[k].toNat = 0
    ·have hst : rnStep st (s[k].toNat : Int) = some ⟨stL st.l s[k].toNat,stLo st.l s[k].toNat,stHi st.l s[k].toNat,0,st.out ++ [st.num * 64 + payI s[k].toNat]⟩:=by
      unfold rnStep; rw [if_pos HK.out,if_pos hz]
     have hinv1:=rnInv_step hinv hle' hle hst
     rw [hst] at hgo
     have HG:=Lib.hid hgo
     have HZ:=Lib.hid (show decide (stL st.l s[k].toNat = 0) = true by simpa using hz)
     clear hgo hst hz
     refine (whole_any _ _ _ _ _ hs1).mono ?_
     rintro e w' ⟨rfl,rfl⟩
     rw [HZ.out]
     go_wp2_with (first
      | (at_builtin; refine wp_app1 rfl _ _ 27 rfl (w.heap.size + 1) 3 (.int .i64 0) 8 Tryz.underlying27 Tryz.info3 rfl u4 _ _ rfl (by exact hrow1) rfl _ rfl (by simp [maxLen]; omega) (by simp; omega) (by omega) ?_; intro v2 w2 hown2 hb2 hn2))
     have hrow2 : ORow w2 (w.heap.size + 1) 3 v2 ((st.out ++ [st.num * 64 + payI s[k].toNat]).map iV):=by simpa [iV] using hown2
     have hs2 : ScanAt w2 w.heap.size (stL st.l s[k].toNat) (stLo st.l s[k].toNat) (stHi st.l s[k].toNat):=Blk.grown hs1 hb2 (hrow1.not_own (by omega))
     have hbel2 : Below w.heap.size w w2:=below_row hbel1 hb2 hrow1 (by omega) (by omega)
     clear hown2 hb2 hn2 hs1 hrow1 hbel1
     go_wp2
     go_roundw
     case rel => exact ⟨k + 1,_,by omega,by go_num,rfl,hs2,hrow2,hbel2,hinv1,by simp; omega,HG⟩
     case measure => simp [intOf]; omega
    ·have hst : rnStep st (s[k].toNat : Int) = some ⟨stL st.l s[k].toNat,stLo st.l s[k].toNat,stHi st.l s[k].toNat,st.num * 64 + payI s[k].toNat,st.out⟩:=by
      unfold rnStep; rw [if_pos HK.out,if_neg hz]
     have hinv1:=rnInv_step hinv hle' hle hst
     rw [hst] at hgo
     have HG:=Lib.hid hgo
     have HZ:=Lib.hid (show decide (stL st.l s[k].toNat = 0) = false by simpa using hz)
     clear hgo hst hz
     refine (whole_any _ _ _ _ _ hs1).mono ?_
     rintro e w' ⟨rfl,rfl⟩
     rw [HZ.out]
     go_wp2
     go_roundw
     case rel => exact ⟨k + 1,⟨stL st.l s[k].toNat,stLo st.l s[k].toNat,stHi st.l s[k].toNat,st.num * 64 + payI s[k].toNat,st.out⟩,by omega,by go_num,rfl,hs1,hrow1,hbel1,hinv1,(by show st.out.length <= k + 1; omega),HG⟩
     case measure => simp [intOf]; omega
   ·have HK:=Lib.hid (show stOk st.l st.lo st.hi s[k].toNat = false by simpa using hok)
    have hnone : runesL s.data.toList = none:=by
     rw [HR.out,hdc]
     simp only [runesGo,rnStep]
     rw [if_neg hok]
    have HN:=Lib.hid hnone
    clear hnone hok hdc
    go_wp2_with fail
    refine (step_any _ _ _ _ _ _ hsc hl03.1 hl03.2 (by omega) hle).mono ?_
    rintro e w1 ⟨rfl,hg1,hs1⟩
    rw [HK.out]
    go_wp2
    go_ret2
    exact runesPost_none HN.out (below_only hbel hg1 hbel.size (Nat.le_refl _))
  ·have hkn : k = s.size:=by omega
   subst hkn
   have hfin : runesL s.data.toList = if st.l = 0 then some st.out else none:=by
    rw [HR.out,List.drop_eq_nil_of_le (by simp)]
    rfl
   by_cases hz : st.l = 0
   ·have HN:=Lib.hid (show runesL s.data.toList = some st.out by rw [hfin,if_pos hz])
    have HZ:=Lib.hid (show decide (st.l = 0) = true by simpa using hz)
    clear hfin hz
    go_wp2_with (first
     | (go_at_call 109; refine (whole_any _ _ _ _ _ hsc).mono ?_; rintro e w' ⟨rfl,rfl⟩; rw [HZ.out]))
    go_ret2
    exact runesPost_some HN.out (hown.mono (by omega)) hbel
   ·have HN:=Lib.hid (show runesL s.data.toList = none by rw [hfin,if_neg hz])
    have HZ:=Lib.hid (show decide (st.l = 0) = false by simpa using hz)
    clear hfin hz
    go_wp2_with (first
     | (go_at_call 109; refine (whole_any _ _ _ _ _ hsc).mono ?_; rintro e w' ⟨rfl,rfl⟩; rw [HZ.out]))
    go_ret2
    exact runesPost_none HN.out hbel
end Go.Proofs.YtbnppjmmlfncmaaGreatDoor
