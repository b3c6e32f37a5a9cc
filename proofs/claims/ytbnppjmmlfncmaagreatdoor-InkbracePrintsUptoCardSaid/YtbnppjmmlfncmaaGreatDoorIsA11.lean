/-
  A range over a function whose rounds write memory, and which may stand in one another: what a round keeps is a relation; what the function turns between two rounds is told by the objects' kinds. No program is read here.
  A region that draws its order, within a round of a range over a function: by the laws for a region that stands alone. No program is read here.
  A row that is appended to, call by call: what lay is as it lay but for the row's own block. No program is read here.
-/
import Derived.Test.YtbnppjmmlfncmaaGreatDoorIsA07
import Derived.RangeFuncFrom
import Derived.RangeFuncNested
import Derived.RangeFuncCalls
import Derived.RangeFuncLeaves
import Derived.OrdersIn
import Derived.OrdersHeld
import Derived.Deep.RegionHeld3
namespace Go.Proofs.YtbnppjmmlfncmaaGreatDoor
open Go Go.RowKit
def isBk : Obj -> Bool
 | .loop _ => true
 | .deferred _ => true
 | _ => false
structure Kept (K : Nat -> Obj -> Prop) (W W' : World) : Prop where
 size : W.heap.size <= W'.heap.size
 same : ∀ k o,W.heap[k]? = some o -> K k o -> W'.heap[k]? = some o
section
variable {K : Nat -> Obj -> Prop} {W W' W'' : World}
theorem Kept.refl (K : Nat -> Obj -> Prop) (W : World) : Kept K W W:=⟨Nat.le_refl _,fun _ _ h _ => h⟩
theorem Kept.trans (h : Kept K W W') (k : Kept K W' W'') : Kept K W W'':=⟨Nat.le_trans h.size k.size,fun i o ho hc => k.same i o (h.same i o ho hc) hc⟩
theorem Kept.of_tch {B : Nat} {T : Obj -> Prop} (h : Tch B T W W') (hK : ∀ k o,K k o -> k < B \/ ¬ T o) : Kept K W W':=⟨h.size,fun k o ho hk => h.block k o ho (hK k o hk)⟩
theorem Kept.of_below (h : Below W.heap.size W W') : Kept K W W':=⟨h.size,fun k _ ho _ => (h.block k (Array.getElem?_eq_some_iff.1 ho).1).trans ho⟩
theorem Kept.alloc (h : Kept K W W') (o : Obj) : Kept K W (W'.alloc o):=h.trans (Kept.of_below ((Below.refl _ _).alloc (Nat.le_refl _) _))
theorem Kept.alloc1 (K : Nat -> Obj -> Prop) (W : World) (o : Obj) : Kept K W (W.alloc o):=(Kept.refl K W).alloc o
theorem Kept.drew (h : Kept K W W') : Kept K W W'.drew:=⟨h.size,h.same⟩
theorem Kept.drewN (h : Kept K W W') (n : Nat) : Kept K W (W'.drewN n):=⟨h.size,h.same⟩
theorem Kept.mono {K' : Nat -> Obj -> Prop} (h : Kept K W W') (hk : ∀ k o,K' k o -> K k o) : Kept K' W W':=⟨h.size,fun k o ho hc => h.same k o ho (hk k o hc)⟩
theorem Kept.put {l : Nat} {o : Obj} (o' : Obj) (hl : W.heap[l]? = some o) (hn : ¬ K l o) : Kept K W (W.putObj l o') :=
 ⟨(grownBy_putObj' W l o').size,fun k o2 h2 hk => by
  by_cases e : k = l
  ·subst e; rw [hl] at h2; cases h2; exact absurd hk hn
  ·exact (World.putObj_heap_other e).trans h2⟩
theorem Kept.set_new (h : Kept K W W') {p : Addr} (hp : W.heap.size <= p.block) (u : Value) : Kept K W (W'.setCell p u) :=
 ⟨by simpa [World.setCell] using h.size,fun k o ho hk => (Below.heap_setCell W' p u k (by have:=(Array.getElem?_eq_some_iff.1 ho).1; omega)).trans (h.same k o ho hk)⟩
theorem Blk.kept {g : Nat} {t : TypeId} {cs : Array Value} (h : Blk W g t cs) (hk : Kept K W W') (hc : K g (.cells cs t (0,0))) : Blk W' g t cs:=hk.same _ _ h hc
theorem tch_put {B : Nat} {T : Obj -> Prop} {l : Nat} {o : Obj} (o' : Obj) (hB : B <= l) (hl : W.heap[l]? = some o) (ho : T o) : Tch B T W (W.putObj l o') :=
 Tch.of_grown (grownBy_putObj' W l o') hB hl ho
theorem Tch.lower {B B' : Nat} {T : Obj -> Prop} (h : Tch B T W W') (hB : B' <= B) : Tch B' T W W':=⟨h.os,h.tape,h.output,h.size,fun k o ho hc => h.block k o ho (hc.imp_left fun h => Nat.lt_of_lt_of_le h hB)⟩
end
def Needs (C : Obj -> Prop) (b0 B : Nat) (k : Nat) (o : Obj) : Prop:=k < b0 \/ C o \/ (B <= k /\ isBk o = true)
def WalksAt (C T : Obj -> Prop) (F : Fence) (n : Nat) (P : Program) (f : Nat) (fa lb : Array Value) (x : Nat -> Array Value) (N : Nat) (b0 : Nat) (W : World) : Prop :=
 ∀ (l B : Nat) (K : Nat -> Obj -> Prop) (J : Nat -> World -> Prop) (Jx : World -> Prop),b0 <= B -> B <= W.heap.size -> (∀ k o,Needs C b0 B k o -> K k o) ->
  (∀ k A A',J k A -> Tch B T A A' -> J k A') -> (∀ A A',Jx A -> Tch B T A A' -> Jx A') ->
  (∀ m k W1,k < N -> J k W1 -> YieldAt F m P l (x k) W1 fun e W2 => Kept K W1 W2 /\ ((e = .returned (.bool true) /\ J (k + 1) W2) \/ (e = .returned (.bool false) /\ Jx W2))) ->
  J 0 W -> CallsIn F n P f (fa ++ #[.func (.yield l) #[] #[]] ++ lb) W fun e W2 => (∃ v,e = .returned v) /\ Kept K W W2 /\ (J N W2 \/ Jx W2)
theorem room_of_none {F : Fence} (hd : F.depth = none) (k : Nat) : F.room k:=fun d h => by rw [hd] at h; cases h
theorem roundIn_anyDepth {F : Fence} (hd : F.depth = none) {m m' : Nat} {P : Program} {l : Nat} {f : FuncId} {tmps : Array Value} {assign body : Code} {w : World} {R : Ending -> World -> Prop}
 (h : RoundIn F m P l f tmps assign body w R) : RoundIn F m' P l f tmps assign body w R:=⟨h.1,fun c cs _ => h.2 c cs (room_of_none hd _)⟩
def RoundOut (K : Nat -> Obj -> Prop) (I : Nat -> World -> Prop) (Ix : World -> Prop) (k : Nat) (W : World) (e : Exit) (_ : Act) (W2 : World) : Prop :=
 Kept K W W2 /\ ((e = .normal /\ I (k + 1) W2) \/ (e = .ret /\ Ix W2))
theorem range_rounds {C T : Obj -> Prop} (hT : ∀ o,isBk o = true -> T o) (hC : ∀ o,C o -> isBk o = false)
 {F : Fence} {n : Nat} {P : Program} {g : Operand} {ps : Array Tmp} {assign body : Code} {Q : Exit -> Act -> World -> Prop} {a : Act} {w : World}
 (hd : F.depth = none) (hro : F.round = none) {f : Nat} {fa lb : Array Value} (hg : a.eval g = .func (.func f) fa lb) (hF : F.fn f) (ef : ∀ args w,(callFunc f args).run P w = .ok (.enter f args) w)
 {x : Nat -> Array Value} {N : Nat} (hx : ∀ k,(x k).size = ps.size) {b0 : Nat} (hb0 : b0 <= w.heap.size) (K : Nat -> Obj -> Prop) (hK : ∀ k o,Needs C b0 w.heap.size k o -> K k o)
 (hv : ∀ o,WalksAt C T F (n - 1) P f fa lb x N b0 ((w.alloc (.deferred (some []))).alloc o))
 (I : Nat -> World -> Prop) (Ix : World -> Prop) (hI : ∀ k A A',I k A -> Tch w.heap.size T A A' -> I k A') (hX : ∀ A A',Ix A -> Tch w.heap.size T A A' -> Ix A') (h0 : I 0 w)
 (Ax : Nat -> Act -> World -> Prop) (hAx : ∀ k a' A A',Ax k a' A -> Tch w.heap.size T A A' -> Ax k a' A')
 (hassign : ∀ (l k : Nat) (W : World) (Kc : Act -> World -> Prop),k < N -> I k W -> (∀ a' W',Kept K W W' -> I k W' -> Ax k a' W' -> Kc a' W') ->
  assign.wpIn (F.inRound l) (n - 1 - 1) P (Exit.then Kc (fun _ _ _ => False)) { tmps:=(ps.zip (x k)).foldl (fun t (p,v) => t.setIfInBounds p v) a.tmps,defers:=[] } W)
 (hbody : ∀ (l k : Nat) (a' : Act) (W : World),k < N -> I k W -> Ax k a' W -> body.wpIn (F.inRound l) (n - 1 - 1) P (RoundOut K I Ix k W) a' W)
 (hdone : ∀ (D : Nat) (W : World),w.heap.size <= D -> Kept K w W -> I N W -> W.heap[D]? = some (.deferred (some [])) -> Q .normal { a with defers:={ target:=.collected D,args:=#[] } :: a.defers } W)
 (hstop : ∀ (D : Nat) (W : World),w.heap.size <= D -> Kept K w W -> Ix W -> W.heap[D]? = some (.deferred (some [])) -> Code.ret.wpIn F n P Q { a with defers:={ target:=.collected D,args:=#[] } :: a.defers } W) :
 (Code.rangeFunc g ps assign body).wpIn F n P Q a w:=by
 refine wpIn_rangeFunc fun fn hfn => ?_
 rw [hro]
 let R : LoopState -> Option Code -> Loop:=fun st pe => { state:=st,pending:=pe,fn,tmps:=a.tmps,params:=ps,assign,body,defers:=w.heap.size }
 let L:=w.heap.size + 1
 let At (st : LoopState) (pe : Option Code) (W : World) : Prop:=W.heap[L]? = some (.loop (R st pe)) /\ W.heap[w.heap.size]? = some (.deferred (some []))
 have turn : ∀ {st pe st' pe' W},At st pe W -> At st' pe' (W.putObj L (.loop (R st' pe'))):=fun h =>
  ⟨World.putObj_heap_same (Array.getElem?_eq_some_iff.1 h.1).1,(World.putObj_heap_other (by show w.heap.size ≠ w.heap.size + 1; omega)).trans h.2⟩
 have begun : At .ready none ((w.alloc (.deferred (some []))).alloc (.loop (R .ready none))):=by
  refine ⟨?_,(Below.heap_alloc _ _ _ (by simp)).trans (World.alloc_heap_new w _)⟩
  have:=World.alloc_heap_new (w.alloc (.deferred (some []))) (.loop (R .ready none))
  rwa [World.size_alloc] at this
 have hsz : ((w.alloc (.deferred (some []))).alloc (.loop (R .ready none))).heap.size = w.heap.size + 2:=by simp
 have tput : ∀ {st pe W} st' pe',At st pe W -> Tch w.heap.size T W (W.putObj L (.loop (R st' pe'))):=fun st' pe' h => tch_put _ (Nat.le_succ _) h.1 (hT _ rfl)
 have kat : ∀ {st pe W W'},At st pe W -> Kept K W W' -> At st pe W':=fun h hk => ⟨hk.same _ _ h.1 (hK _ _ (.inr (.inr ⟨Nat.le_succ _,rfl⟩))),hk.same _ _ h.2 (hK _ _ (.inr (.inr ⟨Nat.le_refl _,rfl⟩)))⟩
 have tat : ∀ {st pe W W'},At st pe W -> Tch (w.heap.size + 2) T W W' -> At st pe W':=fun h ht => ⟨ht.block _ _ h.1 (.inl (Nat.lt_succ_self _)),ht.block _ _ h.2 (.inl (by omega))⟩
 let K' : Nat -> Obj -> Prop:=fun k o => K k o /\ ¬ (k = L /\ isBk o = true)
 have kput : ∀ {st pe W} st' pe',At st pe W -> Kept K' W (W.putObj L (.loop (R st' pe'))):=fun st' pe' h => Kept.put _ h.1 fun hk => hk.2 ⟨rfl,rfl⟩
 refine ⟨L,[{ target:=.collected w.heap.size,args:=#[] }],_,{ target:=.fn (.func f) lb,args:=fa ++ #[.func (.yield L) #[] #[]] },_,f,fa ++ #[.func (.yield L) #[] #[]] ++ lb,_,
  run_enterLoop_outer _ _ _ _ _,(?_ : _ = Result.ok _ ((w.alloc (.deferred (some []))).alloc (.loop (R .ready none)))),fun f' hf' => ?_,(?_ : _ = Result.ok _ ((w.alloc (.deferred (some []))).alloc (.loop (R .ready none)))),fun h => (by rw [hd] at h; cases h),?_⟩
 ·simp only [resolve,hg]
  simp [go_sem,R,L]
 ·simp [Target.leads] at hf'
  subst hf'
  exact hF
 ·simp [invoke,go_sem,ef]
 refine (hv (.loop (R .ready none)) L (w.heap.size + 2) K' (fun k W => I k W /\ At .ready none W) (fun W => Ix W /\ At .done (some .ret) W) (by omega) (by rw [hsz]; exact Nat.le_refl _) ?_ ?_ ?_ ?_ ⟨hI _ _ _ h0 (((Tch.refl _ _ _).alloc _).alloc _),begun⟩).mono ?_
 ·rintro k o (h | h | ⟨h,hb⟩)
  ·exact ⟨hK _ _ (.inl h),fun e => by have : k = w.heap.size + 1:=e.1; omega⟩
  ·exact ⟨hK _ _ (.inr (.inl h)),fun e => by rw [hC o h] at e; exact absurd e.2 (by decide)⟩
  ·exact ⟨hK _ _ (.inr (.inr ⟨by omega,hb⟩)),fun e => by have : k = w.heap.size + 1:=e.1; omega⟩
 ·rintro k A A' ⟨hi,hat⟩ ht
  exact ⟨hI _ _ _ hi (ht.lower (by omega)),tat hat ht⟩
 ·rintro A A' ⟨hi,hat⟩ ht
  exact ⟨hX _ _ hi (ht.lower (by omega)),tat hat ht⟩
 ·-- one round
  rintro m k W hk ⟨hi,hat⟩
  refine ⟨fn,_,assign,body,run_yield (r:=R .ready none) hat.1 (hx k),roundIn_anyDepth hd (roundIn_of_wpIn (n:=n - 1 - 1) hfn (hassign L k W _ hk hi ?_))⟩
  intro a' Wa hka hia hax
  have hata:=kat hat hka
  refine ⟨_,run_beginRound (r:=R .ready none) hata.1 rfl,?_⟩
  have hb:=turn (st':=.busy) (pe':=none) hata
  have t1:=tput .busy none hata
  have k1 : Kept K' W (Wa.putObj L (.loop (R .busy none))):=(hka.mono fun _ _ h => h.1).trans (kput _ _ hata)
  refine wpIn_mono (hbody L k a' _ hk (hI k _ _ hia t1) (hAx k a' _ _ hax t1)) fun e a3 W3 hp => ?_
  obtain ⟨hk3,hp⟩:=hp
  have h3 : At .busy none W3:=kat hb hk3
  rcases hp with ⟨rfl,hi3⟩ | ⟨rfl,hi3⟩
  ·exact ⟨_,_,run_endRound none h3.1,(k1.trans (hk3.mono fun _ _ h => h.1)).trans (kput .ready none h3),.inl ⟨rfl,hI _ _ _ hi3 (tput .ready none h3),turn h3⟩⟩
  ·exact ⟨_,_,run_endRound (some .ret) h3.1,(k1.trans (hk3.mono fun _ _ h => h.1)).trans (kput .done (some .ret) h3),.inr ⟨rfl,hX _ _ hi3 (tput .done (some .ret) h3),turn h3⟩⟩
 ·-- behind it
  have back : ∀ {st pe W} st' pe',At st pe W -> Kept K' ((w.alloc (.deferred (some []))).alloc (.loop (R .ready none))) W -> Kept K w (W.putObj L (.loop (R st' pe'))):=fun st' pe' h hk => by
   have hk2:=hk.trans (kput st' pe' h)
   have hn : Kept K w ((w.alloc (.deferred (some []))).alloc (.loop (R .ready none))):=((Kept.refl _ _).alloc _).alloc _
   refine ⟨Nat.le_trans hn.size hk2.size,fun k o ho hc => hk2.same k o (hn.same k o ho hc) ⟨hc,fun e => ?_⟩⟩
   have h1 : k = w.heap.size + 1:=e.1
   have:=(Array.getElem?_eq_some_iff.1 ho).1
   omega
  rintro e W2 ⟨⟨v,rfl⟩,hk2,(⟨hi,hat⟩ | ⟨hi,hat⟩)⟩
  ·exact ⟨none,_,run_endLoop (r:=R .ready none) hat.1 (by simp [R]),hdone _ _ (Nat.le_refl _) (back _ _ hat hk2) (hI _ _ _ hi (tput _ _ hat)) (turn (st':=.exhausted) (pe':=none) hat).2⟩
  ·exact ⟨some .ret,_,run_endLoop (r:=R .done (some .ret)) hat.1 (by simp [R]),hstop _ _ (Nat.le_refl _) (back _ _ hat hk2) (hX _ _ hi (tput _ _ hat)) (turn (st':=.exhausted) (pe':=some .ret) hat).2⟩
section
variable {P : Program} {ops : Array Oper} {Q : Exit -> Act -> World -> Prop} {md : Region.Mode}
def wpAnyG (P : Program) (md : Region.Mode) (ops : Array Oper) (Q : Exit -> Act -> World -> Prop) (Es : List Nat) (S : World -> Prop) : Nat -> Array Bool -> Act -> World -> Prop
 | 0,listed,a,w => Region.ready md ops listed = [] /\ Q .normal a w
 | fuel + 1,listed,a,w =>
  (Region.ready md ops listed = [] -> Q .normal a w) /\
  ∀ i ∈ Region.ready md ops listed,wpOp P ops Q i (fun a' w' => (i ∉ Es -> S w') /\ wpAnyG P md ops Q Es S fuel (listed.setIfInBounds i true) a' w') a w
variable {S : World -> Prop} {Es : List Nat}
theorem any_of_g : ∀ (fuel : Nat) (listed : Array Bool) (a : Act) (w : World),wpAnyG P md ops Q Es S fuel listed a w -> wpAny P md ops Q fuel listed a w
 | 0,_,_,_,h => h
 | fuel + 1,_,_,_,h => ⟨h.1,fun i hi => wpOp_mono (fun a' w' h' => any_of_g fuel _ a' w' h'.2) (h.2 i hi)⟩
def waitsFor (md : Region.Mode) (ops : Array Oper) (E i : Nat) : Bool:=match ops[E]? with | some o => o.after.any fun e => Region.binds md e && decide (e.on = i) | none => true
theorem g_first {i : Nat} {oi : Oper} {v : Value} (hi : ops[i]? = some oi) (hsel : ∀ (j : Nat) (o : Oper) cs b,ops[j]? = some o -> o.op ≠ .select cs b) (hE : (Es.all fun E => waitsFor md ops E i) = true)
 (hQ : ∀ c a w,Q (.panic c) (a.put oi.dst v) w -> Q (.panic c) a w) :
 ∀ (fuel : Nat) (listed : Array Bool) (a : Act) (w : World),
  (∀ j oj,ops[j]? = some oj -> j ≠ i -> listed.getD j true = false -> (∀ e ∈ oj.after,Region.binds md e = true -> e.on ≠ i) -> oi.apart ops oj = true) ->
  i ∈ Region.ready md ops listed -> YieldsIf P ops S oi v a -> S w ->
  wpAnyG P md ops Q Es S fuel (listed.setIfInBounds i true) (a.put oi.dst v) w -> wpAnyG P md ops Q Es S (fuel + 1) listed a w:=by
 intro fuel
 induction fuel with
 | zero =>
  intro listed a w _ hr hy hS H
  refine ⟨fun h => (by rw [h] at hr; cases hr),fun j hj => ?_⟩
  by_cases hji : j = i
  ·subst hji; exact hy.wpOp hi hS ⟨fun _ => hS,H⟩
  ·have:=ready_mono hj hji
   rw [H.1] at this
   cases this
 | succ fuel ih =>
  intro listed a w hfree hr hy hS H
  refine ⟨fun h => (by rw [h] at hr; cases hr),fun j hj => ?_⟩
  by_cases hji : j = i
  ·subst hji; exact hy.wpOp hi hS ⟨fun _ => hS,H⟩
  ·have h1:=H.2 j (ready_mono hj hji)
   obtain ⟨hjun,oj,hoj,hall⟩:=mem_ready.1 hj
   have hnot : ∀ e ∈ oj.after,Region.binds md e = true -> e.on ≠ i:=fun e he hb heq => by
    have h1:=hall e he hb
    have h0:=(mem_ready.1 hr).1
    rw [heq] at h1
    rcases Nat.lt_or_ge i listed.size with h' | h'
    ·simp [h'] at h0 h1; rw [h0] at h1; cases h1
    ·simp [Array.getElem?_eq_none h'] at h1
   have hjE : j ∉ Es:=by
    intro hm
    have hE:=List.all_eq_true.1 hE j hm
    unfold waitsFor at hE
    rw [hoj] at hE
    simp only [Array.any_eq_true,Bool.and_eq_true,decide_eq_true_iff] at hE
    obtain ⟨q,hq,hb,he⟩:=hE
    exact hnot _ (Array.getElem_mem hq) hb he
   have h2:=wpOp_putIf hoj (hfree j oj hoj hji hjun hnot) (fun cs b => hsel i oi cs b hi) (fun cs b => hsel j oj cs b hoj) hQ hy h1
   have hfree' : ∀ k ok,ops[k]? = some ok -> k ≠ i -> (listed.setIfInBounds j true).getD k true = false ->
    (∀ e ∈ ok.after,Region.binds md e = true -> e.on ≠ i) -> oi.apart ops ok = true:=fun k ok hk hki hun hno => by
    refine hfree k ok hk hki ?_ hno
    by_cases hjk : j = k
    ·subst hjk; exact hjun
    ·rw [getD_set_ne true hjk] at hun; exact hun
   refine wpOp_mono (fun a' w' h3 => ⟨fun _ => h3.2.1 hjE,ih (listed.setIfInBounds j true) a' w' hfree' (ready_mono hr (Ne.symm hji)) h3.1 (h3.2.1 hjE) ?_⟩) h2
   rw [Array.setIfInBounds_comm _ _ hji]
   exact h3.2.2
theorem g_take {i : Nat} {oi : Oper} {v : Value} {fuel : Nat} {listed : Array Bool} {a : Act} {w : World} (hi : ops[i]? = some oi)
 (hs : Region.noSelect ops = true) (hE : (Es.all fun E => waitsFor md ops E i) = true) (hf : Region.free md ops listed i = true) (hr : (Region.ready md ops listed).contains i = true)
 (hQ : ∀ c a w,Q (.panic c) (a.put oi.dst v) w -> Q (.panic c) a w) (hy : YieldsIf P ops S oi v a) (hS : S w)
 (h : wpAnyG P md ops Q Es S fuel (listed.setIfInBounds i true) (a.put oi.dst v) w) : wpAnyG P md ops Q Es S (fuel + 1) listed a w :=
 g_first hi (Region.noSelect_spec hs) hE hQ fuel listed a w (Region.free_spec hi hf) (by simpa using hr) hy hS h
theorem g_done {listed : Array Bool} {a : Act} {w : World} (hr : Region.ready md ops listed = []) (h : Q .normal a w) : ∀ fuel,wpAnyG P md ops Q Es S fuel listed a w
 | 0 => ⟨hr,h⟩
 | _ + 1 => ⟨fun _ => h,by rw [hr]; simp⟩
theorem g_one {i : Nat} {o : Oper} {fuel : Nat} {listed : Array Bool} {a : Act} {w : World} (hr : Region.ready md ops listed = [i]) (ho : ops[i]? = some o)
 (h : ∀ K' : Act -> World -> Prop,Shut (∀ a w,(i ∉ Es -> S w) -> ((i ∉ Es -> S w) -> wpAnyG P md ops Q Es S fuel (listed.setIfInBounds i true) a w) -> K' a w) -> if Region.wanted o (yielded ops a.tmps) = true then Oper.wp P o a w K' Q else K' (a.put o.dst undef) w) :
 wpAnyG P md ops Q Es S (fuel + 1) listed a w:=by
 refine ⟨fun h0 => (by rw [hr] at h0; cases h0),fun j hj => ?_⟩
 rw [hr] at hj
 obtain rfl : j = i:=by simpa using hj
 exact wpOp_step ho (fun K' hK => h K' (fun a w hS hW => hK a w ⟨hS,hW hS⟩))
theorem region_g {id : Nat} (Es : List Nat) {S : World -> Prop} {a : Act} {w : World} (hm : P.follows .mixedOrders = true) (hS : S w.drew)
 (h : S w.drew -> wpAnyG P .any ops (fun e a w => e = .normal /\ Q .normal a w) Es S ops.size (Array.replicate ops.size false) a w.drew) : (Code.region id ops true).wp P Q a w :=
 wp_mono (wp_region_any hm (any_of_g _ _ _ _ (h hS))) fun e a w h => by obtain ⟨rfl,h⟩:=h; exact h
end
open Go.RowKit
structure OStep (w : World) (v : Value) (w' : World) (v' : Value) : Prop where
 grown : w.grownBy w' v.ownBlock
 own : v'.ownBlock = v.ownBlock \/ ∃ g,v'.ownBlock = some g /\ w.heap.size <= g
section
variable {w w1 w2 : World} {v v1 v2 : Value}
theorem OStep.refl (w : World) (v : Value) : OStep w v w v:=⟨World.grownBy.refl w _,.inl rfl⟩
theorem OStep.trans (h : OStep w v w1 v1) (k : OStep w1 v1 w2 v2) : OStep w v w2 v2:=by
 refine ⟨⟨k.grown.os.trans h.grown.os,k.grown.tape.trans h.grown.tape,k.grown.output.trans h.grown.output,Nat.le_trans h.grown.size k.grown.size,fun i hi hne => ?_⟩,?_⟩
 ·refine (k.grown.block i (Nat.lt_of_lt_of_le hi h.grown.size) fun e => ?_).trans (h.grown.block i hi hne)
  rcases h.own with h1 | ⟨g,h1,h2⟩
  ·exact hne (e.trans h1)
  ·rw [h1] at e; injection e with e; omega
 ·rcases k.own with h1 | ⟨g,h1,h2⟩
  ·rcases h.own with h3 | ⟨g,h3,h4⟩
   ·exact .inl (h1.trans h3)
   ·exact .inr ⟨g,h1.trans h3,h4⟩
  ·exact .inr ⟨g,h1,Nat.le_trans h.grown.size h2⟩
theorem OStep.of_below (h : Below w.heap.size w w1) (v : Value) : OStep w v w1 v:=⟨only_of_below h _,.inl rfl⟩
theorem OStep.then_below (h : OStep w v w1 v1) (k : Below w1.heap.size w1 w2) : OStep w v w2 v1:=h.trans (OStep.of_below k v1)
theorem OStep.alloc (h : OStep w v w1 v1) (o : Obj) : OStep w v (w1.alloc o) v1:=h.then_below ((Below.refl _ _).alloc (Nat.le_refl _) _)
theorem OStep.size (h : OStep w v w1 v1) : w.heap.size <= w1.heap.size:=h.grown.size
theorem OStep.blk (h : OStep w v w1 v1) {g : Nat} {t : TypeId} {cs : Array Value} (hb : Blk w g t cs) (hg : some g ≠ v.ownBlock) : Blk w1 g t cs /\ some g ≠ v1.ownBlock:=by
 refine ⟨hb.grown h.grown hg,fun e => ?_⟩
 rcases h.own with h1 | ⟨g',h1,h2⟩
 ·exact hg (e.trans h1)
 ·rw [h1] at e; injection e with e; have:=hb.lt; omega
theorem OStep.heap (h : OStep w v w1 v1) {g : Nat} (hl : g < w.heap.size) (hg : some g ≠ v.ownBlock) : w1.heap[g]? = w.heap[g]?:=h.grown.block g hl hg
theorem OStep.set (h : OStep w v w1 v1) {p : Addr} (hp : w.heap.size <= p.block) (u : Value) : OStep w v (w1.setCell p u) v1 :=
 ⟨⟨h.grown.os,h.grown.tape,h.grown.output,by simpa [World.setCell] using h.grown.size,fun k hk hne => (Below.heap_setCell w1 p u k (by omega)).trans (h.grown.block k hk hne)⟩,h.own⟩
theorem OStep.drew (h : OStep w v w1 v1) : OStep w v w1.drew v1:=⟨only_drew h.grown,h.own⟩
theorem OStep.none_below (h : OStep w (.slice none 0 0) w1 v1) : Below w.heap.size w w1 :=
 ⟨h.grown.os,h.grown.tape,h.grown.output,h.grown.size,fun k hk => h.grown.block k hk (by simp [Value.ownBlock])⟩
theorem OStep.below {base : Nat} {e : TypeId} {size n : Nat} {xs : List Value} (h : OStep w v w1 v1) (hr : w.ownsRow base e size v n xs) (hb : base <= w.heap.size) : Below base w w1 :=
 ⟨h.grown.os,h.grown.tape,h.grown.output,h.grown.size,fun k hk => h.grown.block k (by omega) fun hc => by have:=(World.ownsRow.lt hr k hc.symm).1; omega⟩
end
section
variable {P : Program} {w : World}
theorem wp_appO {ops : Array Oper} {rest : List Oper} {o : Oper} {a : Act} {Q : Exit -> Act -> World -> Prop} (hgd : o.guard = none) (s x : Operand) (t : TypeId)
 (ho : o.op = .call { callee:=.builtin .append,args:=#[s,x],argTypes:=#[t,t] })
 (base : Nat) (e : TypeId) (z : Value) (size bytes : Nat) (ht : P.underlying t = some (.slice e)) (hinfo : (P.info? e).map (fun i => (i.zero,i.size,i.bytes)) = some (some z,size,bytes)) (hz1 : z.cells.size = size) (hs0 : 0 < size)
 (v : Value) (n : Nat) (xs news : List Value) (hs : a.eval s = v) (hown : w.ownsRow base e size v n xs) (hu : ∀ u ∈ news,u.oneCell' = true)
 (A : Addr) (m c : Nat) (hm : news.length = m * size) (hx : a.eval x = .slice (some A) m c) (hc : ∀ j u,news[j]? = some u -> w.cell? (A.add j) = some u)
 (h63 : n + m <= maxLen) (hbytes : (n + m) * bytes <= 140737488355328) (hbase : base <= w.heap.size)
 (h : ∀ v' w',w'.ownsRow base e size v' (n + m) (xs ++ news) -> OStep w v w' v' -> wpList P ops Q rest (a.put o.dst v') w') :
 wpList P ops Q (o :: rest) a w:=by
 obtain ⟨i,hi,hz,hsize,hby⟩:=info_parts hinfo
 refine wpList_plain hgd fun K hK => ?_
 obtain ⟨v',w',hrun,h2,h3,_,h5⟩:=run_append_own_at (P:=P) w base t o.type e i z size bytes ht hi hz hsize hby hz1 hs0 v n xs hown A m c news hm hc hu h63 hbytes hbase
 unfold Oper.wp execOp
 simp only [ho,resolve,invoke,builtin,Sem.run_bind,Sem.run_pure,Result.andThen_ok,List.map_toArray,List.map_cons,List.map_nil,hs,hx,hrun]
 refine hK _ _ (h v' w' h2 ⟨h3,?_⟩)
 rcases h5 with h5 | h5
 ·exact .inl h5
 ·exact .inr ⟨_,h5,by first | exact Nat.le_refl _ | omega⟩
end
end Go.Proofs.YtbnppjmmlfncmaaGreatDoor
