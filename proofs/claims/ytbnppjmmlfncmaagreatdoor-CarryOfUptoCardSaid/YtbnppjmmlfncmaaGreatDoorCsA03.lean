/-
  Trees as plain data: the walk of a node, which nodes have one, and the walk held against the machine of events. No program is read here.
  Every document is the walk of one node: what has been taken is gathered into nodes, event by event. No program is read here.
  Two nodes that have a walk have the same walk just if they are the same. No program is read here.
  Nodes as plain data: their size, sameness, what few says of them, the events that the program's walk visits, and where the machine of events stops on them. No program is read here.
  Memory words: a block that is known whole, worlds in which one block has turned, small laws.
  Rows that the call itself made, of elements of one cell: what append, conversion to a string and reading do with them. Conditions: as each theorem says.
  Contracts of the small functions of src and of its reference: pure computations on numbers.
  A scope out of which the run jumps forward, a few times at most: to whichever label.
-/
import Derived.Test.YtbnppjmmlfncmaaGreatDoorCsA02
import Derived.WalkKit
import Derived.Below
import Derived.Laws.OwnMore
import Derived.Deep.Draws
import Derived.Laws.Rows
import Derived.Deep.OwnRows
import Derived.OwnWalk
import Derived.Maps.AppendAt
import Derived.Laws.BytesString
import Derived.Laws.IdiomStrings
import Derived.Lib.BufferRead
import Derived.Deep.AppendLies
import Derived.Test.YtbnppjmmlfncmaaGreatDoorChecked
import Derived.Test.YtbnppjmmlfncmaaGreatDoorCsA01
import Derived.WalkSpells
import Derived.WalkLawsBesides
import Derived.Lib.Hide
import Derived.WalkMore
import Derived.ScopeJumps
namespace Go.Proofs.YtbnppjmmlfncmaaGreatDoor
inductive Nd where
 | mk (k : Int) (t v : ByteArray) (kids : List Nd)
def Nd.ev : Nd -> Ev
 | .mk k t v _ => ⟨k,t,v⟩
def Nd.kids : Nd -> List Nd
 | .mk _ _ _ l => l
def endL (k : Int) : List Ev:=if opensK k then [endE (endK k)] else []
mutual
def flat : Nd -> List Ev
 | .mk k t v kids => ⟨k,t,v⟩ :: (flatL kids ++ endL k)
def flatL : List Nd -> List Ev
 | [] => []
 | n :: r => flat n ++ flatL r
end
def leafK (k : Int) : Bool:=decide (k = 1 \/ k = 2 \/ k = 3 \/ k = 4 \/ k = 11)
def okShape (k : Int) (n : Nat) : Bool:=opensK k || (leafK k && decide (n = 0)) || (decide (k = 8) && decide (n = 1))
mutual
def shaped : Nd -> Bool
 | .mk k _ _ kids => okShape k kids.length && shapedL kids
def shapedL : List Nd -> Bool
 | [] => true
 | n :: r => shaped n && shapedL r
end
theorem flat_ne (n : Nd) : flat n ≠ []:=by
 cases n with
 | mk k t v kids => simp [flat]
mutual
def goesN : Nd -> List Ev × List Pt -> (List Ev × List Pt) × Int
 | .mk k t v kids,s =>
  if okShape k kids.length = false then (s,19)
  else if stepE s.2 ⟨k,t,v⟩ ≠ 0 then (s,stepE s.2 ⟨k,t,v⟩)
  else
   let r:=goesL kids (s.1 ++ [⟨k,t,v⟩],stepS s.2 ⟨k,t,v⟩)
   if r.2 ≠ 0 then r
   else if opensK k then
    if stepE r.1.2 (endE (endK k)) ≠ 0 then (r.1,stepE r.1.2 (endE (endK k)))
    else ((r.1.1 ++ [endE (endK k)],stepS r.1.2 (endE (endK k))),0)
   else (r.1,0)
def goesL : List Nd -> List Ev × List Pt -> (List Ev × List Pt) × Int
 | [],s => (s,0)
 | n :: r,s =>
  let q:=goesN n s
  if q.2 ≠ 0 then q else goesL r q.1
end
mutual
theorem goesN_taken : ∀ (n : Nd) (s : List Ev × List Pt),Taken s.1 s.2 -> Taken (goesN n s).1.1 (goesN n s).1.2
 | .mk k t v kids,s,h => by
  simp only [goesN]
  split
  ·exact h
  ·split
   ·exact h
   ·rename_i h0
    have h1 : stepE s.2 ⟨k,t,v⟩ = 0:=Decidable.not_not.1 h0
    have hr:=goesL_taken kids (s.1 ++ [⟨k,t,v⟩],stepS s.2 ⟨k,t,v⟩) (h.snoc h1)
    split
    ·exact hr
    ·split
     ·split
      ·exact hr
      ·rename_i h2
       exact hr.snoc (Decidable.not_not.1 h2)
     ·exact hr
theorem goesL_taken : ∀ (l : List Nd) (s : List Ev × List Pt),Taken s.1 s.2 -> Taken (goesL l s).1.1 (goesL l s).1.2
 | [],s,h => by simpa only [goesL] using h
 | n :: r,s,h => by
  have hn:=goesN_taken n s h
  simp only [goesL]
  split
  ·exact hn
  ·exact goesL_taken r _ hn
end
mutual
theorem goesN_ok : ∀ (n : Nd) (s : List Ev × List Pt),(goesN n s).2 = 0 -> shaped n = true /\ (goesN n s).1.1 = s.1 ++ flat n
 | .mk k t v kids,s,h => by
  simp only [goesN] at h ⊢
  split at h
  ·exact absurd (show (19 : Int) = 0 from h) (by decide)
  ·rename_i hs
   rw [Bool.not_eq_false] at hs
   split at h
   ·rename_i h0; exact absurd h h0
   ·rename_i h0
    split at h
    ·rename_i h1; exact absurd h h1
    ·rename_i h1
     have hk:=goesL_ok kids (s.1 ++ [⟨k,t,v⟩],stepS s.2 ⟨k,t,v⟩) (Decidable.not_not.1 h1)
     rw [if_neg (by rw [hs]; decide),if_neg h0,if_neg h1]
     cases ho : opensK k with
     | true =>
      rw [ho,if_pos rfl] at h
      split at h
      ·rename_i h2; exact absurd h h2
      ·rename_i h2
       rw [if_pos rfl,if_neg h2]
       refine ⟨by simp [shaped,hs,hk.1],?_⟩
       simp only [hk.2,flat,endL,ho,if_true]
       simp
     | false =>
      rw [if_neg (by decide)]
      refine ⟨by simp [shaped,hs,hk.1],?_⟩
      simp only [hk.2,flat,endL,ho,if_false,Bool.false_eq_true]
      simp
theorem goesL_ok : ∀ (l : List Nd) (s : List Ev × List Pt),(goesL l s).2 = 0 -> shapedL l = true /\ (goesL l s).1.1 = s.1 ++ flatL l
 | [],s,_ => by simp [goesL,shapedL,flatL]
 | n :: r,s,h => by
  simp only [goesL] at h ⊢
  split at h
  ·rename_i h0; exact absurd h h0
  ·rename_i h0
   rw [if_neg h0]
   have hn:=goesN_ok n s (Decidable.not_not.1 h0)
   have hr:=goesL_ok r _ h
   exact ⟨by simp [shapedL,hn.1,hr.1],by rw [hr.2,hn.2]; simp [flatL]⟩
end
theorem allOk_append : ∀ (a b : List Ev) (st : List Pt),allOk st (a ++ b) ↔ allOk st a /\ allOk (runS st a) b
 | [],b,st => by simp [allOk,runS]
 | x :: a,b,st => by
  have:=allOk_append a b (stepS st x)
  simp only [List.cons_append,allOk,this,and_assoc]
  rfl
theorem runS_append (st : List Pt) (a b : List Ev) : runS st (a ++ b) = runS (runS st a) b:=by simp [runS]
structure Bp where
 key : Option Ev
 x : Ev
 kids : List Nd
theorem shape_head {k : Int} {n : Nat} (h : okShape k n = true) : endsK k = false:=by
 unfold okShape opensK leafK at h
 unfold endsK
 simp only [Bool.or_eq_true,Bool.and_eq_true,decide_eq_true_iff] at h
 rw [decide_eq_false_iff_not]
 omega
def Nd.k : Nd -> Int | .mk k _ _ _ => k
def Nd.t : Nd -> ByteArray | .mk _ t _ _ => t
def Nd.v : Nd -> ByteArray | .mk _ _ v _ => v
theorem Nd.eta (n : Nd) : n = .mk n.k n.t n.v n.kids:=by cases n; rfl
theorem Nd.ind {P : Nd -> Prop} (h : ∀ k t v kids,(∀ m ∈ kids,P m) -> P (.mk k t v kids)) : ∀ n,P n
 | .mk k t v kids => h k t v kids fun m _ => Nd.ind h m
mutual
def sizeN : Nd -> Nat
 | .mk _ _ _ kids => 1 + sizeL kids
def sizeL : List Nd -> Nat
 | [] => 0
 | n :: r => sizeN n + sizeL r
end
theorem sizeN_pos (n : Nd) : 0 < sizeN n:=by cases n; simp [sizeN]; omega
theorem sizeL_append (a b : List Nd) : sizeL (a ++ b) = sizeL a + sizeL b:=by
 induction a with
 | nil => simp [sizeL]
 | cons n r ih => simp [sizeL,ih]; omega
theorem sizeL_len (l : List Nd) : l.length <= sizeL l:=by
 induction l with
 | nil => simp
 | cons n r ih => have:=sizeN_pos n; simp [sizeL]; omega
mutual
def fewN : Nd -> Int -> Int -> Int
 | .mk _ _ _ kids,left,deep => if deep < 0 then -1 else fewL kids (left - 1) (deep - 1)
def fewL : List Nd -> Int -> Int -> Int
 | [],left,_ => left
 | n :: r,left,deep => if left < 0 then left else fewL r (fewN n left deep) deep
end
mutual
theorem fewN_le : ∀ (n : Nd) (left deep : Int),0 <= left -> -1 <= fewN n left deep /\ (0 <= fewN n left deep -> fewN n left deep = left - sizeN n) /\ fewN n left deep <= left
 | .mk _ _ _ kids,left,deep,h => by
  simp only [fewN,sizeN]
  split
  ·omega
  ·have:=fewL_le kids (left - 1) (deep - 1) (by omega)
   omega
theorem fewL_le : ∀ (l : List Nd) (left deep : Int),-1 <= left -> -1 <= fewL l left deep /\ (0 <= fewL l left deep -> fewL l left deep = left - sizeL l) /\ fewL l left deep <= left
 | [],left,deep,h => by simp only [fewL,sizeL]; omega
 | n :: r,left,deep,h => by
  simp only [fewL,sizeL]
  split
  ·omega
  ·have h1:=fewN_le n left deep (by omega)
   have h2:=fewL_le r (fewN n left deep) deep h1.1
   omega
end
theorem few_size {n : Nd} {left deep : Int} (h0 : 0 <= left) (h : 0 <= fewN n left deep) : (sizeN n : Int) <= left:=by
 have:=fewN_le n left deep h0
 omega
theorem fewL_neg : ∀ (l : List Nd) (left deep : Int),left < 0 -> fewL l left deep = left
 | [],_,_,_ => rfl
 | _ :: _,left,deep,h => by simp only [fewL]; rw [if_pos h]
def noneE : Ev:=⟨0,⟨#[]⟩,⟨#[]⟩⟩
mutual
def visN : Nd -> List Ev
 | .mk k t v kids => if okShape k kids.length then ⟨k,t,v⟩ :: (visL kids ++ endL k) else [noneE]
def visL : List Nd -> List Ev
 | [] => []
 | n :: r => visN n ++ visL r
end
theorem visL_append (a b : List Nd) : visL (a ++ b) = visL a ++ visL b:=by
 induction a with
 | nil => rfl
 | cons n r ih => simp [visL,ih,List.append_assoc]
mutual
theorem vis_flat : ∀ n : Nd,shaped n = true -> visN n = flat n
 | .mk k t v kids,h => by
  simp only [shaped,Bool.and_eq_true] at h
  simp only [visN,flat,h.1,if_true,visL_flat kids h.2]
theorem visL_flat : ∀ l : List Nd,shapedL l = true -> visL l = flatL l
 | [],_ => rfl
 | n :: r,h => by
  simp only [shapedL,Bool.and_eq_true] at h
  simp only [visL,flatL,vis_flat n h.1,visL_flat r h.2]
end
theorem none_step (st : List Pt) : stepE st noneE = 19:=by
 cases st with
 | nil => rfl
 | cons p r =>
  simp only [stepE]
  rw [if_pos (.inl (by decide))]
def firstE : List Pt -> List Ev -> Int
 | _,[] => 0
 | st,x :: l => if stepE st x = 0 then firstE (stepS st x) l else stepE st x
theorem firstE_append : ∀ (a b : List Ev) (st : List Pt),firstE st (a ++ b) = if firstE st a = 0 then firstE (runS st a) b else firstE st a
 | [],b,st => by simp [firstE,runS]
 | x :: a,b,st => by
  simp only [List.cons_append,firstE]
  split
  ·rw [firstE_append a b]; rfl
  ·rfl
theorem firstE_ok : ∀ (l : List Ev) (st : List Pt),firstE st l = 0 ↔ allOk st l
 | [],st => by simp [firstE,allOk]
 | x :: l,st => by
  simp only [firstE,allOk]
  split
  ·rename_i h; rw [firstE_ok l]; simp [h]
  ·rename_i h; simp [h]
mutual
theorem goes_first : ∀ (n : Nd) (s : List Ev × List Pt),(goesN n s).2 = firstE s.2 (visN n) /\ ((goesN n s).2 = 0 -> (goesN n s).1.2 = runS s.2 (visN n))
 | .mk k t v kids,s => by
  simp only [goesN,visN]
  cases hs : okShape k kids.length with
  | false => simp [firstE,none_step]
  | true =>
   rw [if_neg (by decide),if_pos rfl]
   by_cases h0 : stepE s.2 ⟨k,t,v⟩ = 0
   ·have hk:=goesL_first kids (s.1 ++ [⟨k,t,v⟩],stepS s.2 ⟨k,t,v⟩)
    simp only at hk
    rw [if_neg (by rw [h0]; decide)]
    simp only [firstE,if_pos h0,firstE_append,<- hk.1]
    by_cases h1 : (goesL kids (s.1 ++ [⟨k,t,v⟩],stepS s.2 ⟨k,t,v⟩)).2 = 0
    ·rw [if_neg (by rw [h1]; decide),if_pos h1]
     have h2:=hk.2 h1
     cases ho : opensK k with
     | true =>
      rw [if_pos rfl]
      simp only [endL,ho,if_true,firstE,<- h2]
      by_cases h3 : stepE (goesL kids (s.1 ++ [⟨k,t,v⟩],stepS s.2 ⟨k,t,v⟩)).1.2 (endE (endK k)) = 0
      ·rw [if_neg (by rw [h3]; decide),if_pos h3]
       refine ⟨rfl,fun _ => ?_⟩
       have hr : ∀ (st : List Pt) (x : Ev) (l : List Ev),runS st (x :: l) = runS (stepS st x) l:=fun _ _ _ => rfl
       rw [hr,runS_append,<- h2]; rfl
      ·rw [if_pos h3,if_neg h3]
       exact ⟨rfl,fun h => absurd h h3⟩
     | false =>
      rw [if_neg (by decide)]
      simp only [endL,ho,if_false,Bool.false_eq_true,firstE,List.append_nil]
      exact ⟨trivial,fun _ => h2⟩
    ·rw [if_pos h1,if_neg h1]
     exact ⟨rfl,fun h => absurd h h1⟩
   ·rw [if_pos h0]
    simp only [firstE,if_neg h0]
    exact ⟨trivial,fun h => absurd h h0⟩
theorem goesL_first : ∀ (l : List Nd) (s : List Ev × List Pt),(goesL l s).2 = firstE s.2 (visL l) /\ ((goesL l s).2 = 0 -> (goesL l s).1.2 = runS s.2 (visL l))
 | [],s => by simp [goesL,visL,firstE,runS]
 | n :: r,s => by
  have hn:=goes_first n s
  simp only [goesL,visL,firstE_append,<- hn.1]
  by_cases h : (goesN n s).2 = 0
  ·have hr:=goesL_first r (goesN n s).1
   rw [if_neg (by rw [h]; decide),if_pos h,runS_append,<- hn.2 h]
   exact hr
  ·rw [if_pos h,if_neg h]
   exact ⟨rfl,fun h' => absurd h' h⟩
end
def mayN (n : Nd) : Int:=firstE [topP] (visN n)
theorem mayN_goes (n : Nd) : (goesN n ([],[topP])).2 = mayN n:=(goes_first n ([],[topP])).1
theorem may_shaped {n : Nd} (h : mayN n = 0) : shaped n = true /\ allOk [topP] (flat n):=by
 have h1:=(goesN_ok n ([],[topP]) (by rw [mayN_goes]; exact h)).1
 refine ⟨h1,?_⟩
 rw [<- vis_flat n h1]
 exact (firstE_ok _ _).1 h
mutual
theorem flat_len : ∀ n : Nd,(flat n).length <= 2 * sizeN n
 | .mk k t v kids => by
  have:=flatL_len kids
  simp only [flat,sizeN,List.length_cons,List.length_append,endL]
  split <;> simp <;> omega
theorem flatL_len : ∀ l : List Nd,(flatL l).length <= 2 * sizeL l
 | [] => by simp [flatL]
 | n :: r => by
  have h1:=flat_len n
  have h2:=flatL_len r
  simp only [flatL,sizeL,List.length_append]
  omega
end
mutual
theorem flat_deep : ∀ (n : Nd) (st : List Pt),shaped n = true -> Good st -> allOk st (flat n) -> (runS st (flat n)).length = st.length
 | .mk k t v kids,st,hs,hg,ha => by
  simp only [shaped,Bool.and_eq_true] at hs
  simp only [flat,allOk] at ha
  have hb:=(allOk_append _ _ _).1 ha.2
  have hg1:=good_step hg ⟨k,t,v⟩
  have hk:=flatL_deep kids (stepS st ⟨k,t,v⟩) hs.2 hg1 hb.1
  have hr : runS st (flat (.mk k t v kids)) = runS (runS (stepS st ⟨k,t,v⟩) (flatL kids)) (endL k):=by
   simp only [flat]; rw [show runS st (⟨k,t,v⟩ :: (flatL kids ++ endL k)) = runS (stepS st ⟨k,t,v⟩) (flatL kids ++ endL k) from rfl,runS_append]
  rw [hr]
  obtain ⟨p,r,rfl⟩:=hg.ne
  have he:=shape_head hs.1
  cases ho : opensK k with
  | true =>
   simp only [endL,ho,if_true] at hb ⊢
   have h1 : (stepS (p :: r) ⟨k,t,v⟩).length = r.length + 2:=by
    unfold stepS; rw [if_pos ha.1]; simp [goS,he,ho]
   have h2 : stepE (runS (stepS (p :: r) ⟨k,t,v⟩) (flatL kids)) (endE (endK k)) = 0:=hb.2.1
   have hl:=hk
   generalize runS (stepS (p :: r) ⟨k,t,v⟩) (flatL kids) = st2 at *
   have h3 : runS st2 [endE (endK k)] = stepS st2 (endE (endK k)):=rfl
   rw [h3]
   unfold stepS
   rw [if_pos h2]
   match st2,hl with
   | q :: r2,hl =>
    simp only [goS]
    rw [if_pos (by exact ends_endK k)]
    simp at hl h1 ⊢
    omega
   | [],hl => rw [h1] at hl; cases hl
  | false =>
   simp only [endL,ho,if_false,Bool.false_eq_true] at hb ⊢
   have h1 : (stepS (p :: r) ⟨k,t,v⟩).length = r.length + 1:=by
    unfold stepS; rw [if_pos ha.1]; simp only [goS,he,ho,if_false,Bool.false_eq_true]; split <;> rfl
   show (runS (stepS (p :: r) ⟨k,t,v⟩) (flatL kids)).length = _
   rw [hk,h1]; rfl
theorem flatL_deep : ∀ (l : List Nd) (st : List Pt),shapedL l = true -> Good st -> allOk st (flatL l) -> (runS st (flatL l)).length = st.length
 | [],st,_,_,_ => rfl
 | n :: r,st,hs,hg,ha => by
  simp only [shapedL,Bool.and_eq_true] at hs
  simp only [flatL] at ha ⊢
  have hb:=(allOk_append _ _ _).1 ha
  rw [runS_append,flatL_deep r _ hs.2 (good_run hg _) hb.2,flat_deep n st hs.1 hg hb.1]
end
theorem may_whole {n : Nd} (h : mayN n = 0) : wholeGo 0 [topP] (flat n) = ((flat n).length,0):=by
 obtain ⟨hs,ha⟩:=may_shaped h
 rw [whole_of ha]
 have hl:=flat_deep n [topP] hs good_start ha
 have hg:=good_run good_start (flat n)
 have ht : doneB (runS [topP] (flat n)) = true:=by
  have hr:=(Taken.rel ⟨ha,rfl⟩ : Rel (flat n) (runS [topP] (flat n)))
  have:=rel_done hr
  rw [this.1,hl] at *
  have h2:=this.2
  simp at h2
  simp [h2,List.length_pos_iff,flat_ne n]
 rw [ht]
 rfl
mutual
def smallT : Nd -> Prop
 | .mk _ t v kids => t.size <= 1048576 /\ v.size <= 1048576 /\ smallL kids
def smallL : List Nd -> Prop
 | [] => True
 | n :: r => smallT n /\ smallL r
end
theorem smallL_mem : ∀ {l : List Nd},smallL l ↔ ∀ n ∈ l,smallT n
 | [] => by simp [smallL]
 | n :: r => by simp only [smallL,smallL_mem (l:=r),List.mem_cons,forall_eq_or_imp]
mutual
theorem flat_small : ∀ n : Nd,smallT n -> ∀ x ∈ flat n,x.t.size <= 1048576 /\ x.v.size <= 1048576
 | .mk k t v kids,h,x,hx => by
  simp only [flat] at hx
  rcases List.mem_cons.1 hx with rfl | hx
  ·exact ⟨h.1,h.2.1⟩
  ·rcases List.mem_append.1 hx with hx | hx
   ·exact flatL_small kids h.2.2 x hx
   ·simp only [endL] at hx
    split at hx
    ·simp at hx; subst hx; exact ⟨Nat.zero_le _,Nat.zero_le _⟩
    ·cases hx
theorem flatL_small : ∀ l : List Nd,smallL l -> ∀ x ∈ flatL l,x.t.size <= 1048576 /\ x.v.size <= 1048576
 | [],_,x,hx => by cases hx
 | n :: r,h,x,hx => by
  simp only [flatL] at hx
  rcases List.mem_append.1 hx with hx | hx
  ·exact flat_small n h.1 x hx
  ·exact flatL_small r h.2 x hx
end
open Go.RowKit
def Blk (w : World) (g : Nat) (t : TypeId) (cs : Array Value) : Prop:=w.heap[g]? = some (.cells cs t (0,0))
section
variable {w w' : World} {g : Nat} {t : TypeId} {cs : Array Value}
theorem Blk.lt (h : Blk w g t cs) : g < w.heap.size:=by
 rcases Nat.lt_or_ge g w.heap.size with hlt | hge
 ·exact hlt
 ·unfold Blk at h; rw [Array.getElem?_eq_none hge] at h; cases h
theorem Blk.cell (h : Blk w g t cs) (i : Nat) : w.cell? ⟨g,i,none⟩ = cs[i]?:=cell_of_row w g i cs t (0,0) h
theorem Blk.frozen (h : Blk w g t cs) (i : Nat) : w.frozen? ⟨g,i,none⟩ = false:=by
 unfold Blk at h
 simp [World.frozen?,h]
theorem Blk.new (w : World) (t : TypeId) (cs : Array Value) : Blk (w.alloc (.cells cs t)) w.heap.size t cs:=heap_alloc_new w _
theorem Blk.drew (h : Blk w g t cs) : Blk w.drew g t cs:=h
theorem Blk.drewN (h : Blk w g t cs) (n : Nat) : Blk (w.drewN n) g t cs:=h
theorem Blk.alloc (h : Blk w g t cs) (o : Obj) : Blk (w.alloc o) g t cs:=(Below.heap_alloc w o g h.lt).trans h
theorem Blk.set_ (h : Blk w g t cs) (i : Nat) (u : Value) : Blk (w.setCell ⟨g,i,none⟩ u) g t (cs.setIfInBounds i u):=by
 unfold Blk at h ⊢
 simp [World.setCell,Array.getElem?_modify,h]
theorem Blk.far (h : Blk w g t cs) {p : Addr} (hp : g ≠ p.block) (u : Value) : Blk (w.setCell p u) g t cs:=(Below.heap_setCell w p u g hp).trans h
theorem Blk.below {B : Nat} (h : Blk w g t cs) (hb : Below B w w') (hg : g < B) : Blk w' g t cs:=(hb.block g hg).trans h
theorem Blk.grown {row : Option Nat} (h : Blk w g t cs) (hb : w.grownBy w' row) (hg : some g ≠ row) : Blk w' g t cs:=(hb.block g h.lt hg).trans h
end
theorem only_drew {a w : World} {row : Option Nat} (h : a.grownBy w row) : a.grownBy w.drew row:=⟨h.os,h.tape,h.output,h.size,h.block⟩
theorem only_alloc {a w : World} {row : Option Nat} (h : a.grownBy w row) (o : Obj) : a.grownBy (w.alloc o) row :=
 ⟨h.os,h.tape,h.output,Nat.le_trans h.size (by simp),fun i hi hne => (Below.heap_alloc w o i (Nat.lt_of_lt_of_le hi h.size)).trans (h.block i hi hne)⟩
theorem only_setCell {a w : World} {g : Nat} (h : a.grownBy w (some g)) {p : Addr} (hp : p.block = g \/ a.heap.size <= p.block) (u : Value) : a.grownBy (w.setCell p u) (some g) :=
 ⟨h.os,h.tape,h.output,by simpa [World.setCell] using h.size,fun i hi hne => (Below.heap_setCell w p u i (by
  rintro rfl
  rcases hp with hp | hp
  ·exact hne (by rw [hp])
  ·omega)).trans (h.block i hi hne)⟩
theorem only_of_below {a w : World} (h : Below a.heap.size a w) (row : Option Nat) : a.grownBy w row:=⟨h.os,h.tape,h.output,h.size,fun i hi _ => h.block i hi⟩
theorem below_drewN {B : Nat} {a w : World} (h : Below B a w) (n : Nat) : Below B a (w.drewN n):=⟨h.os,h.tape,h.output,h.size,h.block⟩
theorem below_drew {B : Nat} {a w : World} (h : Below B a w) : Below B a w.drew:=⟨h.os,h.tape,h.output,h.size,h.block⟩
theorem below_only {a w w' : World} {B g : Nat} (h : Below B a w) (k : w.grownBy w' (some g)) (hB : B <= w.heap.size) (hg : B <= g) : Below B a w' :=
 ⟨k.os.trans h.os,k.tape.trans h.tape,k.output.trans h.output,Nat.le_trans h.size k.size,fun i hi => (k.block i (by omega) (fun e => by injection e; omega)).trans (h.block i hi)⟩
def ORow (w : World) (base : Nat) (e : TypeId) (v : Value) (xs : List Value) : Prop:=w.ownsRow base e 1 v xs.length xs
section
variable {P : Program} {w w' : World} {base : Nat} {e : TypeId} {v : Value} {xs : List Value}
theorem ORow.nil (w : World) (base : Nat) (e : TypeId) : ORow w base e (.slice none 0 0) []:=World.ownsRow_nil w base e 1
theorem ORow.alloc (h : ORow w base e v xs) (o : Obj) : ORow (w.alloc o) base e v xs:=World.ownsRow.alloc h o
theorem ORow.drew (h : ORow w base e v xs) : ORow w.drew base e v xs:=h
theorem ORow.drewN (h : ORow w base e v xs) (n : Nat) : ORow (w.drewN n) base e v xs:=h
theorem ORow.kept {row : Option Nat} (h : ORow w base e v xs) (hg : w.grownBy w' row) (hne : v.ownBlock = none \/ v.ownBlock ≠ row) : ORow w' base e v xs:=World.ownsRow.kept h hg hne
theorem ORow.mono {b : Nat} (h : ORow w base e v xs) (hb : b <= base) : ORow w b e v xs:=by
 refine ⟨h.1,?_⟩
 rcases h.2 with hn | ⟨g,cap,cur,hv,hg,r⟩
 ·exact .inl hn
 ·exact .inr ⟨g,cap,cur,hv,Nat.le_trans hb hg,r⟩
theorem ORow.below {B : Nat} (h : ORow w base e v xs) (hb : Below B w w') (hB : ∀ g,v.ownBlock = some g -> g < B) : ORow w' base e v xs:=by
 refine ⟨h.1,?_⟩
 rcases h.2 with hn | ⟨g,cap,cur,hv,hg,hh,r⟩
 ·exact .inl hn
 ·refine .inr ⟨g,cap,cur,hv,hg,?_,r⟩
  rw [hb.block g (hB g (by rw [hv]; rfl))]
  exact hh
theorem ORow.form (h : ORow w base e v xs) : (v = .slice none 0 0 /\ xs = []) \/ ∃ g cap,v = .slice (some ⟨g,0,none⟩) xs.length cap /\ base <= g /\ g < w.heap.size /\ xs.length <= cap /\ cap <= maxLen:=by
 rcases h.2 with ⟨hn,h0⟩ | ⟨g,cap,cur,hv,hg,hh,hnc,hm,_⟩
 ·exact .inl ⟨hn,List.eq_nil_of_length_eq_zero h0⟩
 ·exact .inr ⟨g,cap,hv,hg,Blk.lt hh,hnc,hm⟩
theorem ORow.lit (w : World) (base : Nat) (e : TypeId) (cs : Array Value) (hb : base <= w.heap.size) (hm : cs.size <= maxLen) : ORow (w.alloc (.cells cs e)) base e (.slice (some ⟨w.heap.size,0,none⟩) cs.size cs.size) cs.toList:=by
 have:=World.ownsRow_lit (base:=base) (e:=e) (size:=1) w cs cs.size hb hm (by simp)
 simpa [ORow] using this
theorem ORow.shape (h : ORow w base e v xs) : ∃ A cap,v = .slice A xs.length cap:=by
 rcases h.form with ⟨rfl,rfl⟩ | ⟨g,cap,rfl,_⟩
 ·exact ⟨_,_,rfl⟩
 ·exact ⟨_,_,rfl⟩
theorem ORow.cell {A : Option Addr} {n cap : Nat} (h : ORow w base e (.slice A n cap) xs) {k : Nat} (hk : k < xs.length) :
 ∃ g,A = some ⟨g,0,none⟩ /\ base <= g /\ g < w.heap.size /\ w.cell? ⟨g,k,none⟩ = some xs[k]:=by
 rcases h.form with ⟨hv,rfl⟩ | ⟨g,cap',hv,hg,hl,_⟩
 ·simp at hk
 ·injection hv with h1 h2 h3
  subst h1 h2 h3
  refine ⟨g,rfl,hg,hl,?_⟩
  rw [World.ownsRow.cellAt h k (by omega)]
  exact List.getElem?_eq_getElem hk
theorem ORow.block {A : Option Addr} {n cap g : Nat} (h : ORow w base e (.slice A n cap) xs) (hA : A = some ⟨g,0,none⟩) : base <= g /\ g < w.heap.size:=by
 rcases h.form with ⟨hv,rfl⟩ | ⟨g',cap',hv,hg,hl,_⟩
 ·injection hv with h1; rw [hA] at h1; cases h1
 ·injection hv with h1
  rw [hA] at h1
  injection h1 with h1
  injection h1 with h1
  subst h1
  exact ⟨hg,hl⟩
theorem ORow.own_ge (h : ORow w base e v xs) {g : Nat} (hg : v.ownBlock = some g) : base <= g:=(World.ownsRow.lt h g hg).1
theorem ORow.not_own (h : ORow w base e v xs) {g : Nat} (hg : g < base) : some g ≠ v.ownBlock:=fun hc => by have:=h.own_ge hc.symm; omega
theorem ORow.kept_far {g : Nat} (h : ORow w base e v xs) (hg : w.grownBy w' (some g)) (hlt : g < base) : ORow w' base e v xs:=h.kept hg (.inr fun hc => h.not_own hlt hc.symm)
theorem below_row {a : World} {B : Nat} (h : Below B a w) (k : w.grownBy w' v.ownBlock) (hr : ORow w base e v xs) (hB : B <= w.heap.size) (hbase : B <= base) : Below B a w' :=
 ⟨k.os.trans h.os,k.tape.trans h.tape,k.output.trans h.output,Nat.le_trans h.size k.size,fun i hi => (k.block i (by omega) (hr.not_own (by omega))).trans (h.block i hi)⟩
theorem wp_app1 {ops : Array Oper} {rest : List Oper} {o : Oper} {a : Act} {Q : Exit -> Act -> World -> Prop} (hgd : o.guard = none) (s x : Operand) (t : TypeId)
 (ho : o.op = .call { callee:=.builtin .append,args:=#[s,x],argTypes:=#[t,t] })
 (base : Nat) (e : TypeId) (z : Value) (bytes : Nat) (ht : P.underlying t = some (.slice e)) (hinfo : (P.info? e).map (fun i => (i.zero,i.size,i.bytes)) = some (some z,1,bytes)) (hz1 : z.cells.size = 1)
 (v : Value) (xs : List Value) (u : Value) (hs : a.eval s = v) (hown : ORow w base e v xs) (hu : u.oneCell' = true)
 (c : Nat) (hx : a.eval x = .slice (some ⟨w.heap.size,0,none⟩) 1 c)
 (h63 : xs.length + 1 <= maxLen) (hbytes : (xs.length + 1) * bytes <= 140737488355328) (hbase : base <= w.heap.size)
 (h : ∀ v' w',ORow w' base e v' (xs ++ [u]) -> w.grownBy w' v.ownBlock -> (v'.ownBlock = v.ownBlock \/ v'.ownBlock = some (w.heap.size + 1)) -> wpList P ops Q rest (a.put o.dst v') w') :
 wpList P ops Q (o :: rest) a (w.alloc (.cells #[u] e)):=by
 obtain ⟨i,hi,hz,hsize,hby⟩:=info_parts hinfo
 refine wpList_plain hgd fun K hK => ?_
 obtain ⟨v',w',hrun,h2,h3,_,h5⟩:=run_append_own_at (P:=P) (w.alloc (.cells #[u] e)) base t o.type e i z 1 bytes ht hi hz hsize hby hz1 (by decide) v xs.length xs (World.ownsRow.alloc hown _)
  ⟨w.heap.size,0,none⟩ 1 c [u] rfl (cell_one_new w u e) (fun y hy => by simp at hy; subst hy; exact hu) h63 hbytes (by simp; omega)
 unfold Oper.wp execOp
 simp only [ho,resolve,invoke,builtin,Sem.run_bind,Sem.run_pure,Result.andThen_ok,List.map_toArray,List.map_cons,List.map_nil,hs,hx,hrun]
 refine hK _ _ (h v' w' ?_ ?_ ?_)
 ·unfold ORow
  rw [List.length_append]
  exact h2
 ·exact ⟨h3.os,h3.tape,h3.output,Nat.le_trans (by simp) h3.size,fun k hk hne => (h3.block k (by simp; omega) hne).trans (Below.heap_alloc w _ k hk)⟩
 ·simpa using h5
theorem wp_app1b {ops : Array Oper} {rest : List Oper} {o : Oper} {a : Act} {Q : Exit -> Act -> World -> Prop} (hgd : o.guard = none) (s x : Operand) (t : TypeId)
 (ho : o.op = .call { callee:=.builtin .append,args:=#[s,x],argTypes:=#[t,t] })
 (base : Nat) (e : TypeId) (z : Value) (bytes : Nat) (ht : P.underlying t = some (.slice e)) (hinfo : (P.info? e).map (fun i => (i.zero,i.size,i.bytes)) = some (some z,1,bytes)) (hz1 : z.cells.size = 1)
 (v : Value) (xs : List Value) (u : Value) (hs : a.eval s = v) (hown : ORow w base e v xs) (hu : u.oneCell' = true)
 (c : Nat) (hx : a.eval x = .slice (some ⟨w.heap.size,0,none⟩) 1 c)
 (h63 : xs.length + 1 <= maxLen) (hbytes : (xs.length + 1) * bytes <= 140737488355328) (hbase : base <= w.heap.size)
 (h : ∀ v' w',ORow w' base e v' (xs ++ [u]) -> Below base w w' -> wpList P ops Q rest (a.put o.dst v') w') :
 wpList P ops Q (o :: rest) a (w.alloc (.cells #[u] e)):=by
 refine wp_app1 hgd s x t ho base e z bytes ht hinfo hz1 v xs u hs hown hu c hx h63 hbytes hbase fun v' w' h1 h2 _ => h v' w' h1 ?_
 refine ⟨h2.os,h2.tape,h2.output,h2.size,fun k hk => h2.block k (by omega) fun hc => ?_⟩
 have:=World.ownsRow.lt hown k hc.symm
 omega
end
section
variable {P : Program} {w : World}
theorem wp_appNb {ops : Array Oper} {rest : List Oper} {o : Oper} {a : Act} {Q : Exit -> Act -> World -> Prop} (hgd : o.guard = none) (s x : Operand) (t : TypeId)
 (ho : o.op = .call { callee:=.builtin .append,args:=#[s,x],argTypes:=#[t,t] })
 (base : Nat) (e : TypeId) (z : Value) (bytes : Nat) (ht : P.underlying t = some (.slice e)) (hinfo : (P.info? e).map (fun i => (i.zero,i.size,i.bytes)) = some (some z,1,bytes)) (hz1 : z.cells.size = 1)
 (v : Value) (xs : List Value) (C : Array Value) (m : Nat) (hs : a.eval s = v) (hown : ORow w base e v xs) (hu : ∀ u ∈ C.toList,u.oneCell' = true) (hm : C.size = m)
 (c : Nat) (hx : a.eval x = .slice (some ⟨w.heap.size,0,none⟩) m c)
 (h63 : xs.length + m <= maxLen) (hbytes : (xs.length + m) * bytes <= 140737488355328) (hbase : base <= w.heap.size)
 (h : ∀ v' w',ORow w' base e v' (xs ++ C.toList) -> Below base w w' -> wpList P ops Q rest (a.put o.dst v') w') :
 wpList P ops Q (o :: rest) a (w.alloc (.cells C e)):=by
 obtain ⟨i,hi,hz,hsize,hby⟩:=info_parts hinfo
 refine wpList_plain hgd fun K hK => ?_
 have hb0 : (w.alloc (.cells C e)).heap[w.heap.size]? = some (.cells C e (0,0)):=heap_alloc_new w _
 obtain ⟨v',w',hrun,h2,h3,_,h5⟩:=run_append_own_at (P:=P) (w.alloc (.cells C e)) base t o.type e i z 1 bytes ht hi hz hsize hby hz1 (by decide) v xs.length xs (World.ownsRow.alloc hown _)
  ⟨w.heap.size,0,none⟩ m c C.toList (by simp [hm]) (World.news_of_block hb0) hu h63 hbytes (by simp; omega)
 unfold Oper.wp execOp
 simp only [ho,resolve,invoke,builtin,Sem.run_bind,Sem.run_pure,Result.andThen_ok,List.map_toArray,List.map_cons,List.map_nil,hs,hx,hrun]
 refine hK _ _ (h v' w' ?_ ?_)
 ·unfold ORow
  rw [List.length_append,show C.toList.length = m from hm]
  exact h2
 ·refine ⟨h3.os,h3.tape,h3.output,Nat.le_trans (by simp) h3.size,fun k hk => (h3.block k (by simp; omega) fun hc => ?_).trans (Below.heap_alloc w _ k (by omega))⟩
  have:=World.ownsRow.lt hown k hc.symm
  omega
end
def bV (b : UInt8) : Value:=.int .u8 (b.toNat : Int)
def iV (n : Int) : Value:=.int .i64 n
theorem bV_of (n : Int) (h0 : 0 <= n) (h1 : n < 256) : Value.int .u8 n = bV (UInt8.ofNat n.toNat):=by
 unfold bV
 have e1 : (UInt8.ofNat n.toNat).toNat = n.toNat:=UInt8.toNat_ofNat_of_lt' (show n.toNat < 256 by omega)
 rw [e1]
 congr 1
 omega
section
variable {P : Program} {w w' : World} {base : Nat} {e : TypeId} {v : Value}
theorem run_string_of_row (src dst : TypeId) (l : List UInt8) (hs : P.underlying src = some (.slice e)) (he : P.underlying e = some (.int .u8)) (hd : P.underlying dst = some .string) (h : ORow w base e v (l.map bV)) :
 (convert src dst v).run P w = .ok (.string ⟨l.toArray⟩) w:=by
 rcases h.form with ⟨rfl,hn⟩ | ⟨g,cap,hv,_⟩
 ·have : l = []:=by simpa using hn
  subst this
  exact Lib.run_convert_nil_bytes w src dst e 0 hs he hd
 ·subst hv
  simp only [List.length_map]
  refine run_convert_bytes_back w src dst e ⟨g,0,none⟩ cap l hs he hd fun j hj => ?_
  have hj' : j < (l.map bV).length:=by simpa using hj
  obtain ⟨g',hg,_,_,hc⟩:=h.cell hj'
  injection hg with hg
  injection hg with hg
  subst hg
  have e1 : (⟨g,0,none⟩ : Addr).add j = ⟨g,j,none⟩:=by unfold Addr.add; split <;> simp_all
  rw [e1,hc]
  simp [bV]
end
theorem ret_bool {a b : Bool} (h : a = b) : Ending.returned (.bool a) = .returned (.bool b):=by rw [h]
theorem ret_int {k : IntKind} {a b : Int} (h : a = b) : Ending.returned (.int k a) = .returned (.int k b):=by rw [h]
theorem may_any (r : Int) (w : World) :
 Calls Tryz.prog 158 #[.int .i64 r] w fun e w' => e = .returned (.bool (mayB r)) /\ w = w':=by
 go_enter Tryz.func158,Tryz.ntmps158
 go_wp2
 all_goals go_ret
 all_goals refine ⟨ret_bool ?_,rfl⟩
 all_goals simp only [mayB]
 all_goals (rw [Bool.eq_iff_iff]; simp; try omega)
theorem isch_any (r : Int) (w : World) :
 Calls Tryz.prog 282 #[.int .i64 r] w fun e w' => e = .returned (.bool (mayB r)) /\ w = w':=by
 go_enter Tryz.func282,Tryz.ntmps282
 go_wp2
 all_goals go_ret
 all_goals refine ⟨ret_bool ?_,rfl⟩
 all_goals simp only [mayB]
 all_goals (rw [Bool.eq_iff_iff]; simp; try omega)
theorem long_any (r : Int) (w : World) :
 Calls Tryz.prog 159 #[.int .i64 r] w fun e w' => e = .returned (.int .i64 (longI r)) /\ w = w':=by
 go_enter Tryz.func159,Tryz.ntmps159
 go_wp2
 all_goals go_ret
 all_goals refine ⟨ret_int ?_,rfl⟩
 all_goals simp only [longI]
 all_goals repeat (first | rw [if_pos (by omega)] | rw [if_neg (by omega)])
theorem i64_and63 (r : Int) (h0 : 0 <= r) (h1 : r < 9223372036854775808) : bits .and .i64 r 63 = r % 64 :=
 bits_mask .i64 63 (by decide) (fun n a b => by rw [IntKind.wrap_i64]; omega) 6 (by decide) r h0 h1
theorem tail_any (r : Int) (h0 : 0 <= r) (h1 : r <= 1114111) (w : World) :
 Calls Tryz.prog 283 #[.int .i64 r] w fun e w' => e = .returned (.int .u8 (128 + r % 64)) /\ w = w':=by
 have e6:=i64_and63 r h0 (by omega)
 have e7 : r % 64 % 256 = r % 64:=by omega
 have e8:=u8_or128 (r % 64) (by omega) (by omega)
 go_enter Tryz.func283,Tryz.ntmps283
 go_wp2
 all_goals go_ret
 exact ⟨rfl,rfl⟩
theorem Tryz.info5 : (Tryz.prog.info? 5).map (fun i => (i.zero,i.size,i.bytes)) = some (some (.int .u8 0),1,1):=by kernel_rfl
theorem Tryz.info3 : (Tryz.prog.info? 3).map (fun i => (i.zero,i.size,i.bytes)) = some (some (.int .i64 0),1,8):=by kernel_rfl
end Go.Proofs.YtbnppjmmlfncmaaGreatDoor
namespace Go
def Exit.fwd (P : Program) (c : Code) (Q : Exit -> Act -> World -> Prop) : Nat -> Exit -> Act -> World -> Prop
 | 0,.goto _,_,_ => False
 | n + 1,.goto l,a,w => ∃ rest,findLabel c l = some rest /\ rest.wp P (Exit.fwd P c Q n) a w
 | _,e,a,w => Q e a w
section
variable {P : Program} {a : Act} {w : World} {Q : Exit -> Act -> World -> Prop} {c : Code}
theorem Exit.fwd_ret (n : Nat) : Exit.fwd P c Q n .ret a w = Q .ret a w:=by cases n <;> rfl
theorem Exit.fwd_goto (n l : Nat) (rest : Code) (h : findLabel c l = some rest) (k : rest.wp P (Exit.fwd P c Q n) a w) : Exit.fwd P c Q (n + 1) (.goto l) a w:=⟨rest,h,k⟩
theorem wp_scope_fwd (n : Nat) (first : c.wp P (Exit.fwd P c Q n) a w) : (Code.scope c).wp P Q a w:=by
 intro b k cs
 have key : ∀ n (body : Code) a w,body.wp P (Exit.fwd P c Q n) a w -> ∃ e a' w',Q e a' w' /\ Arrives P (lone (b.at a (.code body :: .inScope c :: k)) cs w) b k cs e a' w':=by
  intro n
  induction n with
  | zero =>
   intro body a w h
   obtain ⟨e,a₁,w₁,hq,harr⟩:=h b (.inScope c :: k) cs
   cases e with
   | normal => exact ⟨.normal,a₁,w₁,hq,Steps.trans harr (.one step_inScope)⟩
   | exit id => exact ⟨.exit id,a₁,w₁,hq,fun k' hk => harr k' (by simp [exitTo,hk])⟩
   | goto l' => exact hq.elim
   | ret => exact ⟨_,a₁,w₁,hq,harr⟩
   | panic ch => exact ⟨_,a₁,w₁,hq,harr⟩
   | outgrown => exact ⟨_,a₁,w₁,hq,harr⟩
  | succ n ih =>
   intro body a w h
   obtain ⟨e,a₁,w₁,hq,harr⟩:=h b (.inScope c :: k) cs
   cases e with
   | normal => exact ⟨.normal,a₁,w₁,hq,Steps.trans harr (.one step_inScope)⟩
   | exit id => exact ⟨.exit id,a₁,w₁,hq,fun k' hk => harr k' (by simp [exitTo,hk])⟩
   | goto l' =>
    obtain ⟨rest,hf,hr⟩:=hq
    have hg : gotoIn l' (.inScope c :: k) = some (.code rest :: .inScope c :: k):=by simp [gotoIn,hf]
    obtain ⟨e₂,a₂,w₂,hq₂,harr₂⟩:=ih rest a₁ w₁ hr
    exact ⟨e₂,a₂,w₂,hq₂,.of_steps (harr _ hg) harr₂⟩
   | ret => exact ⟨_,a₁,w₁,hq,harr⟩
   | panic ch => exact ⟨_,a₁,w₁,hq,harr⟩
   | outgrown => exact ⟨_,a₁,w₁,hq,harr⟩
 obtain ⟨e,a₁,w₁,hq,harr⟩:=key n c a w first
 cases e with
 | normal => exact ⟨.normal,a₁,w₁,hq,.head step_scope harr⟩
 | exit id => exact ⟨.exit id,a₁,w₁,hq,fun k' hk => .head step_scope (harr k' hk)⟩
 | goto l' => exact ⟨.goto l',a₁,w₁,hq,fun k' hk => .head step_scope (harr k' hk)⟩
 | ret => exact ⟨_,a₁,w₁,hq,.of_steps (.one step_scope) harr⟩
 | panic ch => exact ⟨_,a₁,w₁,hq,.of_steps (.one step_scope) harr⟩
 | outgrown => exact ⟨_,a₁,w₁,hq,.of_steps (.one step_scope) harr⟩
end
end Go
