/-
  tree: the function that walk hands back, and the closure that takes a kid: by induction on the node.
  events: continues, continuesElem: whether some document goes on with an event.
-/
import Derived.Test.YtbnppjmmlfncmaaGreatDoorIsA08
import Derived.Test.YtbnppjmmlfncmaaGreatDoorIsA11
import Derived.Test.YtbnppjmmlfncmaaGreatDoorIsA15
import Derived.RangeFuncBound
import Derived.Shelf.Abstract
import Derived.Shelf.RegionOpen
import Derived.OwnWalkIn
import Derived.TacticsInMore
import Derived.LoopNIn
import Derived.LoopIn
set_option maxRecDepth 100000
namespace Go.Proofs.YtbnppjmmlfncmaaGreatDoor
open Go.RowKit Go.Maps Go.Shelf
attribute [local go_sem] Oper.semAt_some
def visA (n : Nd) (k : Nat) : Array Value:=#[evV ((visN n).getD k noneE)]
def cWalk : Obj -> Prop
 | .cells _ t _ => t = 24 \/ t = 128 \/ t = 4
 | _ => False
def tWalk : Obj -> Prop
 | .cells _ t _ => t = 4
 | .loop _ => True
 | .deferred _ => True
 | _ => False
theorem tWalk_bk (o : Obj) (h : isBk o = true) : tWalk o:=by cases o <;> simp_all [isBk,tWalk]
theorem cWalk_bk (o : Obj) (h : cWalk o) : isBk o = false:=by cases o <;> simp_all [isBk,cWalk]
section
variable {K : Nat -> Obj -> Prop} {W W' : World}
theorem Kept.set_same (h : Kept K W W') {g : Nat} {t : TypeId} {cs : Array Value} (hb : Blk W' g t cs) {i : Nat} {u : Value} (hs : cs.setIfInBounds i u = cs) : Kept K W (W'.setCell ⟨g,i,none⟩ u) :=
 ⟨by simpa [World.setCell] using h.size,fun k o ho hk => by
  by_cases e : k = g
  ·subst e
   have h1:=h.same k o ho hk
   have h2:=hb.set_ i u
   rw [hs] at h2
   unfold Blk at hb h2
   rw [hb] at h1
   cases h1
   exact h2
  ·exact (Below.heap_setCell W' ⟨g,i,none⟩ u k e).trans (h.same k o ho hk)⟩
theorem Kept.low {b0 B : Nat} {C : Obj -> Prop} (h : Kept K W W') (hK : ∀ k o,Needs C b0 B k o -> K k o) (hb : b0 <= W.heap.size) {k : Nat} (hk : k < b0) : W'.heap[k]? = W.heap[k]?:=by
 obtain ⟨o,ho⟩:=heap_some (w:=W) (k:=k) (by omega)
 rw [h.same k o ho (hK _ _ (.inl hk)),ho]
end
theorem tch_set {B : Nat} {T : Obj -> Prop} {W : World} {g : Nat} {t : TypeId} {cs : Array Value} (hb : Blk W g t cs) (hB : B <= g) (hT : T (.cells cs t (0,0))) (i : Nat) (u : Value) : Tch B T W (W.setCell ⟨g,i,none⟩ u) :=
 (Tch.refl B T W).set hb hB hT i u
theorem kept_put_new {K : Nat -> Obj -> Prop} {W W' : World} (h : Kept K W W') {l : Nat} (hl : W.heap.size <= l) (o' : Obj) : Kept K W (W'.putObj l o') :=
 ⟨Nat.le_trans h.size (grownBy_putObj' W' l o').size,fun k o ho hk => (World.putObj_heap_other (by have:=(Array.getElem?_eq_some_iff.1 ho).1; omega)).trans (h.same k o ho hk)⟩
theorem callsIn_anyDepth {F : Fence} (hd : F.depth = none) {m m' : Nat} {P : Program} {f : FuncId} {args : Array Value} {w : World} {R : Ending -> World -> Prop}
 (h : CallsIn F m P f args w R) : CallsIn F m' P f args w R:=⟨h.1,fun cs _ => h.2 cs (room_of_none hd _)⟩
def Walk1 (n : Nd) : Prop:=∀ (m g b0 : Nat) (A : Option Addr) (c : Nat) (W : World),b0 <= W.heap.size -> b0 <= g -> NBox W g n A c -> NAt (fun b _ => b < b0) W n A c ->
 WalksAt cWalk tWalk Fence.wide m Tryz.prog 74 #[] #[.pointer (some ⟨g,0,none⟩)] (visA n) (visN n).length b0 W
set_option maxHeartbeats 2000000 in
theorem within_any (n : Nd) (ih : Walk1 n) (l B b0 off : Nat) (K : Nat -> Obj -> Prop) (J : Nat -> World -> Prop) (Jx : World -> Prop) (W : World) (hb : b0 <= B) (hB : B <= W.heap.size) (hK : ∀ k o,Needs cWalk b0 B k o -> K k o)
 (hJ : ∀ k A A',J k A -> Tch B tWalk A A' -> J k A') (hX : ∀ A A',Jx A -> Tch B tWalk A A' -> Jx A')
 (hY : ∀ m k W1,k < (visN n).length -> J (off + k) W1 -> YieldAt Fence.wide m Tryz.prog l #[evV ((visN n).getD k noneE)] W1 fun e W2 => Kept K W1 W2 /\ ((e = .returned (.bool true) /\ J (off + k + 1) W2) \/ (e = .returned (.bool false) /\ Jx W2)))
 (vb : Nat) (hv : Blk W vb 128 #[.func (.yield l) #[] #[]]) (k : Int) (t v : ByteArray) (A : Option Addr) (len c : Nat) (hn : n.k = k /\ n.t = t /\ n.v = v /\ n.kids.length = len) (hA : NAt (fun b _ => b < b0) W n A c) (h0 : J off W) :
 CallsIn Fence.wide 3 Tryz.prog 76 #[.agg #[.int .i64 k,.string t,.string v,.slice A len c],.pointer (some ⟨vb,0,none⟩)] W fun e W2 =>
  Kept K W W2 /\ ((e = .returned (.bool true) /\ J (off + (visN n).length) W2) \/ (e = .returned (.bool false) /\ Jx W2)):=by
 have hvl:=hv.lt
 refine callsIn_of_wp_marks Tryz.func76 rfl trivial ?_ rfl
 simp only [Tryz.ntmps76,List.size_toArray,List.length_cons,List.length_nil,Nat.reduceAdd,Nat.reduceSub,Array.replicate_succ,Array.replicate_zero,List.push_toArray,List.append_toArray,List.nil_append,List.cons_append]
 gi_wp2_with (first
  | (refine ⟨trivial,?_⟩; gi_at_call 44; refine (callsIn_wide.2 (twalk_any k t v A len c _)).mono ?_; rintro e w' ⟨rfl,rfl⟩))
 obtain ⟨W3,hW3⟩ : ∃ W3,((W.alloc (.cells #[.int .i64 k,.string t,.string v,.slice A len c] 24)).alloc (.cells #[.bool false] 4)).alloc (.cells #[.int .i64 k,.string t,.string v,.slice A len c] 24) = W3:=⟨_,rfl⟩
 rw [hW3]
 have hbel : Below W.heap.size W W3:=by
  rw [<- hW3]
  exact (((Below.refl _ W).alloc (Nat.le_refl _) _).alloc (by simp) _).alloc (by simp; omega) _
 have hsz : W3.heap.size = W.heap.size + 3:=by rw [<- hW3]; simp
 have hbx : NBox W3 (W.heap.size + 1 + 1) n A c:=by
  unfold NBox
  rw [hn.1,hn.2.1,hn.2.2.1,hn.2.2.2,<- hW3]
  have:=Blk.new ((W.alloc (.cells #[.int .i64 k,.string t,.string v,.slice A len c] 24)).alloc (.cells #[.bool false] 4)) 24 #[.int .i64 k,.string t,.string v,.slice A len c]
  rw [World.size_alloc,World.size_alloc] at this
  exact this
 have hb1 : Blk W3 (W.heap.size + 1) 4 #[.bool false]:=by
  rw [<- hW3]
  have:=(Blk.new (W.alloc (.cells #[.int .i64 k,.string t,.string v,.slice A len c] 24)) 4 #[.bool false]).alloc (.cells #[.int .i64 k,.string t,.string v,.slice A len c] 24)
  rw [World.size_alloc] at this
  exact this
 have hvb : Blk W3 vb 128 #[.func (.yield l) #[] #[]]:=hv.below hbel hvl
 have hA3:=hA.below hbel
 have hKW : Kept K W W3:=Kept.of_below hbel
 have hJ3 : J off W3:=hJ _ _ _ h0 (Tch.of_below hbel)
 have hK3 : ∀ k o,Needs cWalk b0 W3.heap.size k o -> K k o:=fun k o h => hK k o (h.imp_right fun h => h.imp_right fun h => ⟨by omega,h.2⟩)
 clear hW3 hn
 refine range_rounds (C:=cWalk) (T:=tWalk) tWalk_bk cWalk_bk rfl rfl (f:=74) (fa:=#[]) (lb:=#[.pointer (some ⟨W.heap.size + 1 + 1,0,none⟩)]) rfl trivial (enters_of Tryz.func74 (by kernel_rfl) rfl)
  (x:=visA n) (N:=(visN n).length) (fun _ => rfl) (b0:=b0) (by omega) K hK3
  (fun o => ih _ _ b0 A c _ (by simp; omega) (by omega) ((Blk.alloc (Blk.alloc hbx _) _)) ((hA3.below ((Below.refl _ _).alloc (Nat.le_refl _) _)).below ((Below.refl _ _).alloc (Nat.le_refl _) _)))
  (fun j W' => J (off + j) W' /\ Blk W' (W.heap.size + 1) 4 #[.bool false] /\ Blk W' vb 128 #[.func (.yield l) #[] #[]])
  (fun W' => Jx W' /\ Blk W' (W.heap.size + 1) 4 #[.bool false])
  (fun j A' A'' hi ht => ⟨hJ _ _ _ hi.1 (ht.lower (by omega)),hi.2.1.tch ht (.inl (by omega)),hi.2.2.tch ht (.inl (by omega))⟩)
  (fun A' A'' hi ht => ⟨hX _ _ hi.1 (ht.lower (by omega)),hi.2.tch ht (.inl (by omega))⟩)
  ⟨hJ3,hb1,hvb⟩
  (fun j a' W' => ∃ eb,Blk W' eb 67 #[.int .i64 ((visN n).getD j noneE).k,.string ((visN n).getD j noneE).t,.string ((visN n).getD j noneE).v] /\ a' = { tmps:=#[.agg #[.int .i64 k,.string t,.string v,.slice A len c],.pointer (some ⟨vb,0,none⟩),.pointer (some ⟨W.heap.size,0,none⟩),.pointer (some ⟨W.heap.size + 1,0,none⟩),.pointer (some ⟨eb,0,none⟩),.agg #[.int .i64 k,.string t,.string v,.slice A len c],.func (.func 74) #[] #[.pointer (some ⟨W.heap.size + 1 + 1,0,none⟩)],evV ((visN n).getD j noneE),undef,undef,undef,undef],defers:=[] })
  (fun j a' A' A'' h ht => by obtain ⟨eb,h1,h2⟩:=h; exact ⟨eb,h1.tch ht (.inr (by simp [tWalk])),h2⟩)
  ?assign ?body ?done ?stop
 case assign =>
  intro l' j W' Kc hj hi hKc
  unfold visA evV at *
  generalize (visN n).getD j noneE = x at *
  gi_wp2
  exact hKc _ _ (Kept.alloc1 _ _ _) ⟨hJ _ _ _ hi.1 ((Tch.refl _ _ _).alloc _),hi.2.1.alloc _,hi.2.2.alloc _⟩ ⟨_,Blk.new _ _ _,rfl⟩
 case body =>
  rintro l' j a' W' hj ⟨hj1,hbl,hvl'⟩ ⟨eb,hE,rfl⟩
  obtain ⟨fn,tmps,assign,body,hy,hR⟩:=hY (3 - 1 - 1 - 1) j W' hj hj1
  unfold evV at *
  generalize (visN n).getD j noneE = x at *
  have e0:=hE.cell 0
  have e1:=hE.cell 1
  have e2:=hE.cell 2
  have e3 : W'.cell? ⟨vb,0,none⟩ = some (.func (.yield l) #[] #[]):=hvl'.cell 0
  have f1 : W'.frozen? ⟨W.heap.size + 1,0,none⟩ = false:=hbl.frozen 0
  have l1:=hbl.lt
  gi_wp2
  refine RoundIn.mono (F:=Fence.wide.inRound l') hR ?_
  clear hR
  rintro e W4 ⟨hk4,(⟨rfl,hJ4⟩ | ⟨rfl,hx4⟩)⟩
  ·have g1:=hbl.kept hk4 (hK _ _ (.inr (.inl (.inr (.inr rfl)))))
   have g2:=hvl'.kept hk4 (hK _ _ (.inr (.inl (.inr (.inl rfl)))))
   gi_wp2
   exact ⟨hk4,.inl ⟨rfl,hJ4,g1,g2⟩⟩
  ·have g1:=hbl.kept hk4 (hK _ _ (.inr (.inl (.inr (.inr rfl)))))
   have f2 : W4.frozen? ⟨W.heap.size + 1,0,none⟩ = false:=g1.frozen 0
   have g0 : W4.cell? ⟨W.heap.size + 1,0,none⟩ = some (.bool false):=g1.cell 0
   have l2:=g1.lt
   gi_wp2
   exact ⟨hk4.set_same g1 rfl,.inr ⟨rfl,hX _ _ hx4 (show Tch B tWalk W4 (W4.setCell ⟨W.heap.size + 1,0,none⟩ (.bool false)) from tch_set (T:=tWalk) g1 (by show B <= W.heap.size + 1; omega) rfl 0 _),g1.set_ 0 (.bool false)⟩⟩
 case done =>
  rintro D W' hD hk ⟨hj,hbl,_⟩ hK'
  have f1 : W'.frozen? ⟨W.heap.size + 1,0,none⟩ = false:=hbl.frozen 0
  have g0 : W'.cell? ⟨W.heap.size + 1,0,none⟩ = some (.bool false):=hbl.cell 0
  have l1:=hbl.lt
  gi_wp2
  have g1:=hbl.set_ 0 (.bool true)
  have ht1 : Tch B tWalk W' (W'.setCell ⟨W.heap.size + 1,0,none⟩ (.bool true)):=tch_set (T:=tWalk) hbl (by show B <= W.heap.size + 1; omega) rfl 0 _
  have hD1 : (W'.setCell ⟨W.heap.size + 1,0,none⟩ (.bool true)).heap[D]? = some (.deferred (some [])):=(Below.heap_setCell W' ⟨W.heap.size + 1,0,none⟩ _ D (by show D ≠ W.heap.size + 1; omega)).trans hK'
  refine ⟨by simp,.inl ⟨_,_,rfl,run_takeDeferred hD1,?_⟩⟩
  have ht2 : Tch B tWalk (W'.setCell ⟨W.heap.size + 1,0,none⟩ (.bool true)) ((W'.setCell ⟨W.heap.size + 1,0,none⟩ (.bool true)).putObj D (.deferred none)):=tch_put _ (by omega) hD1 trivial
  have g2 : Blk ((W'.setCell ⟨W.heap.size + 1,0,none⟩ (.bool true)).putObj D (.deferred none)) (W.heap.size + 1) 4 #[.bool true]:=(World.putObj_heap_other (show W.heap.size + 1 ≠ D by omega)).trans g1
  have g3 : _ = some (Value.bool true):=g2.cell 0
  have hkp:=(hKW.trans hk).set_new (p:=⟨W.heap.size + 1,0,none⟩) (by simp) (.bool true)
  have hkq:=kept_put_new hkp (l:=D) (by omega) (.deferred none)
  refine ⟨.bool true,?_,hkq,.inl ⟨rfl,hJ _ _ _ hj (ht1.trans ht2)⟩⟩
  simp [results,Tryz.f76,go_sem,g3]
 case stop =>
  rintro D W' hD hk ⟨hx,hbl⟩ hK'
  have g0 : W'.cell? ⟨W.heap.size + 1,0,none⟩ = some (.bool false):=hbl.cell 0
  gi_wp2
  refine ⟨by simp,.inl ⟨_,_,rfl,run_takeDeferred hK',?_⟩⟩
  have ht2 : Tch B tWalk W' (W'.putObj D (.deferred none)):=tch_put _ (by omega) hK' trivial
  have g2 : Blk (W'.putObj D (.deferred none)) (W.heap.size + 1) 4 #[.bool false]:=(World.putObj_heap_other (show W.heap.size + 1 ≠ D by omega)).trans hbl
  have g3 : _ = some (Value.bool false):=g2.cell 0
  have hkq:=kept_put_new (hKW.trans hk) (l:=D) (by omega) (.deferred none)
  refine ⟨.bool false,?_,hkq,.inr ⟨rfl,hX _ _ hx ht2⟩⟩
  simp [results,Tryz.f76,go_sem,g3]
theorem low_cell {K : Nat -> Obj -> Prop} {C : Obj -> Prop} {W W' : World} {b0 B : Nat} (h : Kept K W W') (hK : ∀ k o,Needs C b0 B k o -> K k o) (hb : b0 <= W.heap.size) {p : Addr} (hp : p.block < b0) : W'.cell? p = W.cell? p:=by
 unfold World.cell?
 rw [h.low hK hb hp]
theorem vis_at {k : Int} {t v : ByteArray} {kids : List Nd} (hs : okShape k kids.length = true) {j : Nat} (hj : j < kids.length) :
 (visL (kids.take (j + 1))).length = (visL (kids.take j)).length + (visN kids[j]).length /\
 ∀ i,i < (visN kids[j]).length -> 1 + (visL (kids.take j)).length + i < (visN (.mk k t v kids)).length /\ (visN (.mk k t v kids)).getD (1 + (visL (kids.take j)).length + i) noneE = (visN kids[j]).getD i noneE:=by
 have h1 : visL (kids.take (j + 1)) = visL (kids.take j) ++ visN kids[j]:=by
  rw [List.take_succ_eq_append_getElem hj,visL_append]; simp [visL]
 have h2 : visL kids = visL (kids.take j) ++ (visN kids[j] ++ visL (kids.drop (j + 1))):=by
  conv => lhs; rw [<- List.take_append_drop j kids,List.drop_eq_getElem_cons hj,visL_append]
  rfl
 refine ⟨by rw [h1,List.length_append],fun i hi => ?_⟩
 simp only [visN,hs,if_true]
 rw [h2]
 constructor
 ·simp only [List.length_cons,List.length_append]; omega
 ·rw [List.getD_eq_getElem?_getD,List.getD_eq_getElem?_getD,show 1 + (visL (kids.take j)).length + i = ((visL (kids.take j)).length + i) + 1 by omega,List.getElem?_cons_succ,List.append_assoc,
   List.getElem?_append_right (by omega),show (visL (kids.take j)).length + i - (visL (kids.take j)).length = i by omega,List.append_assoc,List.getElem?_append_left hi]
theorem vis_end {k : Int} {t v : ByteArray} {kids : List Nd} (hs : okShape k kids.length = true) :
 (opensK k = true -> (visN (.mk k t v kids)).length = 1 + (visL kids).length + 1 /\ (visN (.mk k t v kids)).getD (1 + (visL kids).length) noneE = endE (endK k)) /\ (opensK k = false -> (visN (.mk k t v kids)).length = 1 + (visL kids).length):=by
 simp only [visN,hs,if_true,endL]
 constructor
 ·intro ho
  rw [if_pos ho]
  refine ⟨by simp; omega,?_⟩
  rw [List.getD_eq_getElem?_getD,show 1 + (visL kids).length = (visL kids).length + 1 by omega,List.getElem?_cons_succ,List.getElem?_append_right (Nat.le_refl _),Nat.sub_self]
  rfl
 ·intro ho
  rw [ho]
  simp
  omega
theorem visN_len_pos (n : Nd) : 0 < (visN n).length:=by
 cases n; simp only [visN]; split <;> simp
set_option maxHeartbeats 4000000 in
theorem walk1_any (n : Nd) : Walk1 n:=by
 induction n using Nd.ind with
 | h k t v kids ihk =>
  intro m g b0 A c W hbW hbg hbox hA l B K J Jx hb hB hK hJ hX hY h0
  show CallsIn Fence.wide m Tryz.prog 74 #[.func (.yield l) #[] #[],.pointer (some ⟨g,0,none⟩)] W _
  unfold NBox at hbox
  simp only [Nd.k,Nd.t,Nd.v,Nd.kids] at hbox
  have hgl:=hbox.lt
  obtain ⟨hlc,hcm,hkids⟩:=(NAt.def_ _ _ _).1 hA
  simp only [Nd.kids] at hlc hkids
  have hcm2 : c <= 9223372036854775807:=by simpa [maxLen] using hcm
  have hvs : visN (.mk k t v kids) = if okShape k kids.length then ⟨k,t,v⟩ :: (visL kids ++ endL k) else [noneE]:=rfl
  refine callsIn_anyDepth (m:=6) rfl ?_
  refine callsIn_of_wp Tryz.func74 rfl trivial ?_ rfl
  simp only [Tryz.ntmps74,List.size_toArray,List.length_cons,List.length_nil,Nat.reduceAdd,Nat.reduceSub,Array.replicate_succ,Array.replicate_zero,List.push_toArray,List.append_toArray,List.nil_append,List.cons_append]
  have hW1 : Below W.heap.size W (W.alloc (.cells #[.func (.yield l) #[] #[]] 128)):=(Below.refl _ W).alloc (Nat.le_refl _) _
  have hv1:=Blk.new W 128 #[.func (.yield l) #[] #[]]
  have c0 : (W.alloc (.cells #[.func (.yield l) #[] #[]] 128)).cell? ⟨g,0,none⟩ = some (.int .i64 k):=(hbox.below hW1 hgl).cell 0
  have c1 : (W.alloc (.cells #[.func (.yield l) #[] #[]] 128)).cell? ⟨g,1,none⟩ = some (.string t):=(hbox.below hW1 hgl).cell 1
  have c2 : (W.alloc (.cells #[.func (.yield l) #[] #[]] 128)).cell? ⟨g,2,none⟩ = some (.string v):=(hbox.below hW1 hgl).cell 2
  have c3 : (W.alloc (.cells #[.func (.yield l) #[] #[]] 128)).cell? ⟨g,3,none⟩ = some (.slice A kids.length c):=(hbox.below hW1 hgl).cell 3
  have hY0 : ∀ (x : Ev) (W1 : World),(visN (.mk k t v kids)).getD 0 noneE = x -> J 0 W1 -> YieldAt Fence.wide 5 Tryz.prog l #[evV x] W1 fun e W2 => Kept K W1 W2 /\ ((e = .returned (.bool true) /\ J 1 W2) \/ (e = .returned (.bool false) /\ Jx W2)):=fun x W1 hx hj => by
   have:=hY 5 0 W1 (visN_len_pos _) hj
   unfold visA at this
   rw [hx] at this
   exact this
  unfold evV at hY0
  cases hs : okShape k kids.length with
  | false =>
   rw [hs] at hvs
   have hN : (visN (.mk k t v kids)).length = 1:=by rw [hvs]; rfl
   have hx : (visN (.mk k t v kids)).getD 0 noneE = noneE:=by rw [hvs]; rfl
   have hy1:=fun W1 hj => hY0 noneE W1 hx hj
   unfold noneE at hy1
   rw [hN]
   clear hvs hN hx hY0 hY
   have HS:=Lib.hid hs
   clear hs
   gi_wp2_with (first
    | (refine ⟨trivial,?_⟩; gi_at_call 75; refine (callsIn_wide.2 (formed_tree k t v A kids.length c _)).mono ?_; rintro e w1 ⟨rfl,hbf⟩; rw [HS.out]; have hv2 : w1.cell? ⟨W.heap.size,0,none⟩ = some (.func (.yield l) #[] #[]):=(hv1.below hbf hv1.lt).cell 0; have hb2:=Lib.hid (hW1.trans (hbf.mono hW1.size)); obtain ⟨fn,tmps,assign,body,hy,hR⟩:=hy1 w1 (hJ _ _ _ h0 (Tch.of_below hb2.out))))
   refine hR.mono ?_
   clear hR
   rintro e W4 ⟨hk4,hq⟩
   have hk5:=(Kept.of_below (K:=K) hb2.out).trans hk4
   rcases hq with ⟨rfl,hJ4⟩ | ⟨rfl,hx4⟩
   ·gi_wp2
    refine bodyPost_ret (results_none rfl _ _ _) rfl ?_
    exact ⟨⟨_,rfl⟩,hk5,.inl hJ4⟩
   ·gi_wp2
    refine bodyPost_ret (results_none rfl _ _ _) rfl ?_
    exact ⟨⟨_,rfl⟩,hk5,.inr hx4⟩
  | true =>
   rw [hs] at hvs
   have hx : (visN (.mk k t v kids)).getD 0 noneE = ⟨k,t,v⟩:=by rw [hvs]; rfl
   have hy1:=fun W1 hj => hY0 _ W1 hx hj
   simp only at hy1
   clear hx hY0
   have HS:=Lib.hid hs
   have HV:=Lib.hid hvs
   clear hs hvs
   gi_wp2_with (first
    | (refine ⟨trivial,?_⟩; gi_at_call 75; refine (callsIn_wide.2 (formed_tree k t v A kids.length c _)).mono ?_; rintro e w1 ⟨rfl,hbf⟩; rw [HS.out]; have hv2 : w1.cell? ⟨W.heap.size,0,none⟩ = some (.func (.yield l) #[] #[]):=(hv1.below hbf hv1.lt).cell 0; have d0:=(hbf.cell (p:=⟨g,0,none⟩) (cell_lt c0)).trans c0; have d1:=(hbf.cell (p:=⟨g,1,none⟩) (cell_lt c1)).trans c1; have d2:=(hbf.cell (p:=⟨g,2,none⟩) (cell_lt c2)).trans c2; have hb2:=Lib.hid (hW1.trans (hbf.mono hW1.size)); have hV2:=Lib.hid (hv1.below hbf hv1.lt); obtain ⟨fn,tmps,assign,body,hy,hR⟩:=hy1 w1 (hJ _ _ _ h0 (Tch.of_below hb2.out))))
   refine hR.mono ?_
   clear hR hy1 hy
   rintro e W4 ⟨hk4,hq⟩
   have hk5:=(Kept.of_below (K:=K) hb2.out).trans hk4
   have hV4:=hV2.out.kept hk4 (hK _ _ (.inr (.inl (.inr (.inl rfl)))))
   have hB4:=hbox.kept hk5 (hK _ _ (.inr (.inl (.inl rfl))))
   clear hk4 hV2 hb2 d0 d1 d2 hv2 hbf c0 c1 c2 c3 hv1 hW1
   clear w1
   rcases hq with ⟨rfl,hJ4⟩ | ⟨rfl,hx4⟩
   case inr =>
    gi_wp2
    refine bodyPost_ret (results_none rfl _ _ _) rfl ?_
    exact ⟨⟨_,rfl⟩,hk5,.inr hx4⟩
   case inl =>
    have d3 : W4.cell? ⟨g,3,none⟩ = some (.slice A kids.length c):=hB4.cell 3
    gi_wp2
    gi_loopw [27] (fun i wr => ∃ j : Nat,j <= kids.length /\ i = .int .i64 (j : Int) /\ Hid (J (1 + (visL (kids.take j)).length) wr) /\ Hid (Kept K W wr) /\ Blk wr W.heap.size 128 #[.func (.yield l) #[] #[]]) (fun i _ => kids.length - (intOf i).toNat)
    case atStart => exact ⟨0,Nat.zero_le _,rfl,Lib.hid hJ4,Lib.hid hk5,hV4⟩
    case round =>
     obtain ⟨j,hj,rfl,HJ,HK,hV5⟩:=hrel
     have hB5:=hbox.kept HK.out (hK _ _ (.inr (.inl (.inl rfl))))
     clear hB4 hV4 d3
     by_cases hlt : j < kids.length
     case pos =>
      obtain ⟨b,o,rfl,hbb,hkid⟩:=hkids (by omega)
      obtain ⟨A',c',e0,e1,e2,e3,hn⟩:=hkid j hlt
      have q0:=(low_cell HK.out hK hbW (p:=⟨b,o + j * 4,none⟩) hbb).trans e0
      have q1:=(low_cell HK.out hK hbW (p:=⟨b,o + j * 4 + 1,none⟩) hbb).trans e1
      have q2:=(low_cell HK.out hK hbW (p:=⟨b,o + j * 4 + 2,none⟩) hbb).trans e2
      have q3:=(low_cell HK.out hK hbW (p:=⟨b,o + j * 4 + 3,none⟩) hbb).trans e3
      have hva:=vis_at (t:=t) (v:=v) HS.out hlt
      have hnr : NAt (fun b _ => b < b0) wr kids[j] A' c':=hn.low fun i hi => HK.out.low hK hbW hi
      have hih:=ihk _ (List.getElem_mem hlt)
      clear e0 e1 e2 e3 hn hkid
      generalize kids[j] = kd at *
      have hbs:=HK.out.size
      have hal : Below wr.heap.size wr (wr.alloc (.cells #[.int .i64 kd.k,.string kd.t,.string kd.v,.slice A' kd.kids.length c'] 24)):=(Below.refl _ _).alloc (Nat.le_refl _) _
      have hcall:=callsIn_anyDepth (m':=5) rfl (within_any kd hih l B b0 (1 + (visL (kids.take j)).length) K J Jx (wr.alloc (.cells #[.int .i64 kd.k,.string kd.t,.string kd.v,.slice A' kd.kids.length c'] 24)) hb (by simp; omega) hK hJ hX
       (fun m i W1 hi hj => by
        have h1:=hva.2 i hi
        have:=hY m _ W1 h1.1 hj
        unfold visA at this
        rw [h1.2] at this
        exact this)
       W.heap.size (hV5.alloc _) kd.k kd.t kd.v A' kd.kids.length c' ⟨rfl,rfl,rfl,rfl⟩ (hnr.below hal) (hJ _ _ _ HJ.out (Tch.of_below hal)))
      have HL:=Lib.hid hva.1
      have g3 : wr.cell? ⟨g,3,none⟩ = some (.slice (some ⟨b,o,none⟩) kids.length c):=hB5.cell 3
      have hjc : j < c:=by omega
      clear hva hih hnr hkids hal
      gi_wp2_with (first
       | (refine ⟨trivial,?_⟩; gi_at_call 76; refine hcall.mono ?_; clear hcall; rintro e w5 ⟨hk5,(⟨rfl,hJ5⟩ | ⟨rfl,hx5⟩)⟩))
      ·have hk6:=HK.out.trans ((Kept.alloc1 K wr _).trans hk5)
       have hV6:=(hV5.alloc (.cells #[.int .i64 kd.k,.string kd.t,.string kd.v,.slice A' kd.kids.length c'] 24)).kept hk5 (hK _ _ (.inr (.inl (.inr (.inl rfl)))))
       gi_wp2
       go_roundw
       case rel => exact ⟨j + 1,hlt,by go_num,Lib.hid (by rw [HL.out,<- Nat.add_assoc]; exact hJ5),Lib.hid hk6,hV6⟩
       case measure => first | (simp [intOf]; done) | (simp [intOf]; omega)
      ·have hk6:=HK.out.trans ((Kept.alloc1 K wr _).trans hk5)
       gi_wp2
       refine bodyPost_ret (results_none rfl _ _ _) rfl ?_
       exact ⟨⟨_,rfl⟩,hk6,.inr hx5⟩
     case neg =>
      have hje : j = kids.length:=by omega
      subst hje
      rw [List.take_length] at HJ
      have d0 : wr.cell? ⟨g,0,none⟩ = some (.int .i64 k):=hB5.cell 0
      have d4 : wr.cell? ⟨W.heap.size,0,none⟩ = some (.func (.yield l) #[] #[]):=hV5.cell 0
      have hve:=vis_end (t:=t) (v:=v) HS.out
      have hei:=endI_opens k
      have hE:=endOf_any k wr
      cases ho : opensK k with
      | true =>
       obtain ⟨hN,hx⟩:=hve.1 ho
       obtain ⟨he1,he2⟩:=hei.1 ho
       have hy2:=hY 5 (1 + (visL kids).length) wr (by omega) HJ.out
       unfold visA at hy2
       rw [hx] at hy2
       unfold evV endE at hy2
       rw [<- he1] at hy2
       generalize endI k = E at *
       obtain ⟨fn,tmps,assign,body,hy,hR⟩:=hy2
       have hz:=ibeq he2
       have hz2:=ibne he2
       have HN:=Lib.hid hN
       clear hN hx he1 he2 hei hve hY ho
       gi_wp2_with (first
        | (refine ⟨trivial,?_⟩; gi_at_call 77; refine (callsIn_wide.2 hE).mono ?_; clear hE; rintro e w5 ⟨rfl,rfl⟩))
       refine hR.mono ?_
       clear hR
       rintro e W5 ⟨hk5',hq⟩
       have hk6:=HK.out.trans hk5'
       rcases hq with ⟨rfl,hJ5⟩ | ⟨rfl,hx5⟩
       ·gi_wp2
        go_end0
        exact ⟨⟨_,rfl⟩,hk6,.inl (by rw [HN.out]; exact hJ5)⟩
       ·gi_wp2
        go_end0
        exact ⟨⟨_,rfl⟩,hk6,.inr hx5⟩
      | false =>
       have hN:=hve.2 ho
       have he1:=hei.2 ho
       rw [he1] at hE
       have HN:=Lib.hid hN
       clear hN he1 hei hve hY ho
       gi_wp2_with (first
        | (refine ⟨trivial,?_⟩; gi_at_call 77; refine (callsIn_wide.2 hE).mono ?_; clear hE; rintro e w5 ⟨rfl,rfl⟩))
       go_end0
       exact ⟨⟨_,rfl⟩,HK.out,.inl (by rw [HN.out]; exact HJ.out)⟩
open Go.RowKit
theorem ne_bne {k n : Int} (h : k ≠ n) : (k != n) = true:=by simpa using h
theorem ne_beq {k n : Int} (h : k ≠ n) : (k == n) = false:=beq_eq_false_iff_ne.2 h
section
variable (b o : Nat) (last : Int) (x : Ev) (w : World)
set_option maxHeartbeats 4000000 in
theorem contElem_any (h1 : w.cell? ⟨b,o + 1,none⟩ = some (.int .i64 last)) :
 Calls Tryz.prog 115 #[.pointer (some ⟨b,o,none⟩),evV x] w fun e w' => e = .returned (.bool (contElem last x.k (emptyT x.t))) /\ Below w.heap.size w w':=by
 unfold evV
 obtain ⟨k,t,v⟩:=x
 have hbel:=(Below.refl w.heap.size w).alloc (Nat.le_refl _) (.cells #[.int .i64 k,.string t,.string v] 67)
 have hc1:=cell?_alloc_old (.cells #[.int .i64 k,.string t,.string v] 67) h1
 simp only
 by_cases k11 : k = 11
 ·subst k11
  have hR : contElem last 11 (emptyT t) = decide (last = 0 \/ last = 11):=by unfold contElem; rw [if_pos rfl]
  rw [hR]
  clear hR
  by_cases l0 : last = 0
  ·subst l0
   go_enter Tryz.func115,Tryz.ntmps115
   go_wp2
   go_ret
   exact ⟨rfl,hbel⟩
  ·have d0:=ne_beq l0
   by_cases l11 : last = 11
   ·subst l11
    go_enter Tryz.func115,Tryz.ntmps115
    go_wp2
    go_ret
    exact ⟨rfl,hbel⟩
   ·have d11:=ne_beq l11
    rw [decide_eq_false (by omega : ¬ (last = 0 \/ last = 11))]
    go_enter Tryz.func115,Tryz.ntmps115
    go_wp2
    go_ret
    exact ⟨rfl,hbel⟩
 have c11:=ne_beq k11
 by_cases k4 : k = 4
 ·subst k4
  have hR : contElem last 4 (emptyT t) = (decide (last ≠ 4) && !emptyT t):=by unfold contElem; rw [if_neg (by decide),if_pos rfl]
  rw [hR]
  clear hR
  by_cases l4 : last = 4
  ·subst l4
   go_enter Tryz.func115,Tryz.ntmps115
   go_wp2
   go_ret
   exact ⟨rfl,hbel⟩
  ·have d4:=ne_beq l4
   have b4:=ne_bne l4
   rw [decide_eq_true l4,Bool.true_and]
   by_cases ht : t.size = 0
   ·obtain rfl:=str_nil ht
    rw [emptyT_nil]
    go_enter Tryz.func115,Tryz.ntmps115
    go_wp2
    go_ret
    exact ⟨rfl,hbel⟩
   ·have n1:=str_ne ht
    have n2:=str_ne2 ht
    rw [emptyT_no ht]
    go_enter Tryz.func115,Tryz.ntmps115
    go_wp2
    go_ret
    exact ⟨rfl,hbel⟩
 have c4:=ne_beq k4
 have hR : contElem last k (emptyT t) = decide (k = 10 \/ k = 12):=by unfold contElem; rw [if_neg k11,if_neg k4]
 rw [hR]
 clear hR
 by_cases k10 : k = 10
 ·subst k10
  go_enter Tryz.func115,Tryz.ntmps115
  go_wp2
  go_ret
  exact ⟨rfl,hbel⟩
 have c10:=ne_beq k10
 by_cases k12 : k = 12
 ·subst k12
  go_enter Tryz.func115,Tryz.ntmps115
  go_wp2
  go_ret
  exact ⟨rfl,hbel⟩
 have c12:=ne_beq k12
 rw [decide_eq_false (by omega : ¬ (k = 10 \/ k = 12))]
 go_enter Tryz.func115,Tryz.ntmps115
 go_wp2
 go_ret
 exact ⟨rfl,hbel⟩
set_option maxHeartbeats 4000000 in
theorem continues_any (kind : Int) (h0 : w.cell? ⟨b,o,none⟩ = some (.int .i64 kind)) (h1 : w.cell? ⟨b,o + 1,none⟩ = some (.int .i64 last)) :
 Calls Tryz.prog 79 #[.pointer (some ⟨b,o,none⟩),evV x] w fun e w' => e = .returned (.bool (contB kind last x.k (emptyT x.t))) /\ Below w.heap.size w w':=by
 unfold evV
 have hCE:=fun w' h => contElem_any b o last x w' h
 unfold evV at hCE
 obtain ⟨k,t,v⟩:=x
 have hbel:=(Below.refl w.heap.size w).alloc (Nat.le_refl _) (.cells #[.int .i64 k,.string t,.string v] 67)
 have hc0:=cell?_alloc_old (.cells #[.int .i64 k,.string t,.string v] 67) h0
 have hc1:=cell?_alloc_old (.cells #[.int .i64 k,.string t,.string v] 67) h1
 simp only at hCE ⊢
 obtain ⟨vk,hvk⟩ : ∃ vk,valueK k = vk:=⟨_,rfl⟩
 have HV:=Lib.hid hvk
 by_cases q5 : kind = 5
 ·subst q5
  have hR : contB 5 last k (emptyT t) = (vk || decide (k = 6)):=by unfold contB; rw [if_pos rfl,hvk]
  rw [hR]
  clear hR hvk
  cases vk with
  | true =>
   go_enter Tryz.func79,Tryz.ntmps79
   go_wp2_with (first
    | (go_at_call 114; refine (isValue_any k _).mono ?_; rintro e w' ⟨rfl,rfl⟩; rw [HV.out]))
   go_ret
   exact ⟨rfl,hbel⟩
  | false =>
   rw [Bool.false_or]
   by_cases k6 : k = 6
   ·subst k6
    go_enter Tryz.func79,Tryz.ntmps79
    go_wp2_with (first
     | (go_at_call 114; refine (isValue_any 6 _).mono ?_; rintro e w' ⟨rfl,rfl⟩; rw [HV.out]))
    go_ret
    exact ⟨rfl,hbel⟩
   ·have c6:=ne_beq k6
    rw [decide_eq_false k6]
    go_enter Tryz.func79,Tryz.ntmps79
    go_wp2_with (first
     | (go_at_call 114; refine (isValue_any k _).mono ?_; rintro e w' ⟨rfl,rfl⟩; rw [HV.out]))
    go_ret
    exact ⟨rfl,hbel⟩
 have d5:=ne_beq q5
 by_cases q7 : kind = 7
 ·subst q7
  by_cases l8 : last = 8
  ·subst l8
   have hR : contB 7 8 k (emptyT t) = vk:=by unfold contB; rw [if_neg (by decide),if_pos rfl,if_pos rfl,hvk]
   rw [hR]
   clear hR hvk
   go_enter Tryz.func79,Tryz.ntmps79
   go_wp2_with (first
    | (go_at_call 114; refine (isValue_any k _).mono ?_; rintro e w' ⟨rfl,rfl⟩; rw [HV.out]))
   go_ret
   exact ⟨rfl,hbel⟩
  ·have e8:=ne_beq l8
   have hR : contB 7 last k (emptyT t) = decide (k = 8 \/ k = 9):=by unfold contB; rw [if_neg (by decide),if_pos rfl,if_neg l8]
   rw [hR]
   clear hR hvk HV
   by_cases k8 : k = 8
   ·subst k8
    go_enter Tryz.func79,Tryz.ntmps79
    go_wp2
    go_ret
    exact ⟨rfl,hbel⟩
   have c8:=ne_beq k8
   by_cases k9 : k = 9
   ·subst k9
    go_enter Tryz.func79,Tryz.ntmps79
    go_wp2
    go_ret
    exact ⟨rfl,hbel⟩
   have c9:=ne_beq k9
   rw [decide_eq_false (by omega : ¬ (k = 8 \/ k = 9))]
   go_enter Tryz.func79,Tryz.ntmps79
   go_wp2
   go_ret
   exact ⟨rfl,hbel⟩
 have d7:=ne_beq q7
 by_cases q10 : kind = 10
 ·subst q10
  have hR : contB 10 last k (emptyT t) = contElem last k (emptyT t):=by unfold contB; rw [if_neg (by decide),if_neg (by decide),if_pos rfl]
  rw [hR]
  clear hR hvk HV
  generalize contElem last k (emptyT t) = ce at *
  go_enter Tryz.func79,Tryz.ntmps79
  go_wp2_with (first
   | (go_at_call 115; refine (hCE _ hc1).mono ?_; rintro e w1 ⟨rfl,hb1⟩; replace hbel:=hbel.trans (hb1.mono hbel.size)))
  go_ret
  exact ⟨rfl,hbel⟩
 have d10:=ne_beq q10
 have hR : contB kind last k (emptyT t) = (decide (last = 0) && vk):=by unfold contB; rw [if_neg q5,if_neg q7,if_neg q10,hvk]
 rw [hR]
 clear hR hvk hCE
 by_cases l0 : last = 0
 ·subst l0
  rw [decide_eq_true rfl,Bool.true_and]
  go_enter Tryz.func79,Tryz.ntmps79
  go_wp2_with (first
   | (go_at_call 114; refine (isValue_any k _).mono ?_; rintro e w' ⟨rfl,rfl⟩; rw [HV.out]))
  go_ret
  exact ⟨rfl,hbel⟩
 ·have e0:=ne_beq l0
  rw [decide_eq_false l0,Bool.false_and]
  go_enter Tryz.func79,Tryz.ntmps79
  go_wp2
  go_ret
  exact ⟨rfl,hbel⟩
end
end Go.Proofs.YtbnppjmmlfncmaaGreatDoor
