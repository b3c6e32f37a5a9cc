/-
  Trees as plain data: the walk of a node, which nodes have one, and the walk held against the machine of events. No program is read here.
  Every document is the walk of one node: what has been taken is gathered into nodes, event by event. No program is read here.
  Two nodes that have a walk have the same walk just if they are the same. No program is read here.
  Nodes as plain data: their size, sameness, what few says of them, the events that the program's walk visits, and where the machine of events stops on them. No program is read here.
  Contracts of the small functions of src and of its reference: pure computations on numbers.
  A scope out of which the run jumps forward, a few times at most: to whichever label.
  Put's contract: the bytes of a character, or none.
  Slices of ints and of bytes that can be read: nil, or their cells at an address.
-/
import Derived.Test.YtbnppjmmlfncmaaGreatDoorIrA03
import Derived.Test.YtbnppjmmlfncmaaGreatDoorIrA01
import Derived.Test.YtbnppjmmlfncmaaGreatDoorChecked
import Derived.Test.YtbnppjmmlfncmaaGreatDoorIrA02
import Derived.WalkKit
import Derived.WalkSpells
import Derived.WalkLawsBesides
import Derived.Lib.Hide
import Derived.WalkMore
import Derived.ScopeJumps
set_option maxRecDepth 100000
namespace Go.Proofs.YtbnppjmmlfncmaaGreatDoor
inductive Nd where
 | mk (k : Int) (t v : ByteArray) (kids : List Nd)
def Nd.ev : Nd -> Ev
 | .mk k t v _ => ⟨k,t,v⟩
def Nd.kids : Nd -> List Nd
 | .mk _ _ _ l => l
def endL (k : Int) : List Ev:=if opensK k then [endE (endK k)] else []
mutual
def flat : Nd -> List Ev
 | .mk k t v kids => ⟨k,t,v⟩ :: (flatL kids ++ endL k)
def flatL : List Nd -> List Ev
 | [] => []
 | n :: r => flat n ++ flatL r
end
def leafK (k : Int) : Bool:=decide (k = 1 \/ k = 2 \/ k = 3 \/ k = 4 \/ k = 11)
def okShape (k : Int) (n : Nat) : Bool:=opensK k || (leafK k && decide (n = 0)) || (decide (k = 8) && decide (n = 1))
mutual
def shaped : Nd -> Bool
 | .mk k _ _ kids => okShape k kids.length && shapedL kids
def shapedL : List Nd -> Bool
 | [] => true
 | n :: r => shaped n && shapedL r
end
theorem flat_ne (n : Nd) : flat n ≠ []:=by
 cases n with
 | mk k t v kids => simp [flat]
mutual
def goesN : Nd -> List Ev × List Pt -> (List Ev × List Pt) × Int
 | .mk k t v kids,s =>
  if okShape k kids.length = false then (s,19)
  else if stepE s.2 ⟨k,t,v⟩ ≠ 0 then (s,stepE s.2 ⟨k,t,v⟩)
  else
   let r:=goesL kids (s.1 ++ [⟨k,t,v⟩],stepS s.2 ⟨k,t,v⟩)
   if r.2 ≠ 0 then r
   else if opensK k then
    if stepE r.1.2 (endE (endK k)) ≠ 0 then (r.1,stepE r.1.2 (endE (endK k)))
    else ((r.1.1 ++ [endE (endK k)],stepS r.1.2 (endE (endK k))),0)
   else (r.1,0)
def goesL : List Nd -> List Ev × List Pt -> (List Ev × List Pt) × Int
 | [],s => (s,0)
 | n :: r,s =>
  let q:=goesN n s
  if q.2 ≠ 0 then q else goesL r q.1
end
mutual
theorem goesN_taken : ∀ (n : Nd) (s : List Ev × List Pt),Taken s.1 s.2 -> Taken (goesN n s).1.1 (goesN n s).1.2
 | .mk k t v kids,s,h => by
  simp only [goesN]
  split
  ·exact h
  ·split
   ·exact h
   ·rename_i h0
    have h1 : stepE s.2 ⟨k,t,v⟩ = 0:=Decidable.not_not.1 h0
    have hr:=goesL_taken kids (s.1 ++ [⟨k,t,v⟩],stepS s.2 ⟨k,t,v⟩) (h.snoc h1)
    split
    ·exact hr
    ·split
     ·split
      ·exact hr
      ·rename_i h2
       exact hr.snoc (Decidable.not_not.1 h2)
     ·exact hr
theorem goesL_taken : ∀ (l : List Nd) (s : List Ev × List Pt),Taken s.1 s.2 -> Taken (goesL l s).1.1 (goesL l s).1.2
 | [],s,h => by simpa only [goesL] using h
 | n :: r,s,h => by
  have hn:=goesN_taken n s h
  simp only [goesL]
  split
  ·exact hn
  ·exact goesL_taken r _ hn
end
mutual
theorem goesN_ok : ∀ (n : Nd) (s : List Ev × List Pt),(goesN n s).2 = 0 -> shaped n = true /\ (goesN n s).1.1 = s.1 ++ flat n
 | .mk k t v kids,s,h => by
  simp only [goesN] at h ⊢
  split at h
  ·exact absurd (show (19 : Int) = 0 from h) (by decide)
  ·rename_i hs
   rw [Bool.not_eq_false] at hs
   split at h
   ·rename_i h0; exact absurd h h0
   ·rename_i h0
    split at h
    ·rename_i h1; exact absurd h h1
    ·rename_i h1
     have hk:=goesL_ok kids (s.1 ++ [⟨k,t,v⟩],stepS s.2 ⟨k,t,v⟩) (Decidable.not_not.1 h1)
     rw [if_neg (by rw [hs]; decide),if_neg h0,if_neg h1]
     cases ho : opensK k with
     | true =>
      rw [ho,if_pos rfl] at h
      split at h
      ·rename_i h2; exact absurd h h2
      ·rename_i h2
       rw [if_pos rfl,if_neg h2]
       refine ⟨by simp [shaped,hs,hk.1],?_⟩
       simp only [hk.2,flat,endL,ho,if_true]
       simp
     | false =>
      rw [if_neg (by decide)]
      refine ⟨by simp [shaped,hs,hk.1],?_⟩
      simp only [hk.2,flat,endL,ho,if_false,Bool.false_eq_true]
      simp
theorem goesL_ok : ∀ (l : List Nd) (s : List Ev × List Pt),(goesL l s).2 = 0 -> shapedL l = true /\ (goesL l s).1.1 = s.1 ++ flatL l
 | [],s,_ => by simp [goesL,shapedL,flatL]
 | n :: r,s,h => by
  simp only [goesL] at h ⊢
  split at h
  ·rename_i h0; exact absurd h h0
  ·rename_i h0
   rw [if_neg h0]
   have hn:=goesN_ok n s (Decidable.not_not.1 h0)
   have hr:=goesL_ok r _ h
   exact ⟨by simp [shapedL,hn.1,hr.1],by rw [hr.2,hn.2]; simp [flatL]⟩
end
theorem allOk_append : ∀ (a b : List Ev) (st : List Pt),allOk st (a ++ b) ↔ allOk st a /\ allOk (runS st a) b
 | [],b,st => by simp [allOk,runS]
 | x :: a,b,st => by
  have:=allOk_append a b (stepS st x)
  simp only [List.cons_append,allOk,this,and_assoc]
  rfl
theorem runS_append (st : List Pt) (a b : List Ev) : runS st (a ++ b) = runS (runS st a) b:=by simp [runS]
theorem shape_head {k : Int} {n : Nat} (h : okShape k n = true) : endsK k = false:=by
 unfold okShape opensK leafK at h
 unfold endsK
 simp only [Bool.or_eq_true,Bool.and_eq_true,decide_eq_true_iff] at h
 rw [decide_eq_false_iff_not]
 omega
def Nd.k : Nd -> Int | .mk k _ _ _ => k
def Nd.t : Nd -> ByteArray | .mk _ t _ _ => t
def Nd.v : Nd -> ByteArray | .mk _ _ v _ => v
theorem Nd.ind {P : Nd -> Prop} (h : ∀ k t v kids,(∀ m ∈ kids,P m) -> P (.mk k t v kids)) : ∀ n,P n
 | .mk k t v kids => h k t v kids fun m _ => Nd.ind h m
mutual
def sizeN : Nd -> Nat
 | .mk _ _ _ kids => 1 + sizeL kids
def sizeL : List Nd -> Nat
 | [] => 0
 | n :: r => sizeN n + sizeL r
end
theorem sizeN_pos (n : Nd) : 0 < sizeN n:=by cases n; simp [sizeN]; omega
theorem sizeL_append (a b : List Nd) : sizeL (a ++ b) = sizeL a + sizeL b:=by
 induction a with
 | nil => simp [sizeL]
 | cons n r ih => simp [sizeL,ih]; omega
theorem sizeL_len (l : List Nd) : l.length <= sizeL l:=by
 induction l with
 | nil => simp
 | cons n r ih => have:=sizeN_pos n; simp [sizeL]; omega
mutual
def fewN : Nd -> Int -> Int -> Int
 | .mk _ _ _ kids,left,deep => if deep < 0 then -1 else fewL kids (left - 1) (deep - 1)
def fewL : List Nd -> Int -> Int -> Int
 | [],left,_ => left
 | n :: r,left,deep => if left < 0 then left else fewL r (fewN n left deep) deep
end
mutual
theorem fewN_le : ∀ (n : Nd) (left deep : Int),0 <= left -> -1 <= fewN n left deep /\ (0 <= fewN n left deep -> fewN n left deep = left - sizeN n) /\ fewN n left deep <= left
 | .mk _ _ _ kids,left,deep,h => by
  simp only [fewN,sizeN]
  split
  ·omega
  ·have:=fewL_le kids (left - 1) (deep - 1) (by omega)
   omega
theorem fewL_le : ∀ (l : List Nd) (left deep : Int),-1 <= left -> -1 <= fewL l left deep /\ (0 <= fewL l left deep -> fewL l left deep = left - sizeL l) /\ fewL l left deep <= left
 | [],left,deep,h => by simp only [fewL,sizeL]; omega
 | n :: r,left,deep,h => by
  simp only [fewL,sizeL]
  split
  ·omega
  ·have h1:=fewN_le n left deep (by omega)
   have h2:=fewL_le r (fewN n left deep) deep h1.1
   omega
end
theorem few_size {n : Nd} {left deep : Int} (h0 : 0 <= left) (h : 0 <= fewN n left deep) : (sizeN n : Int) <= left:=by
 have:=fewN_le n left deep h0
 omega
theorem fewL_neg : ∀ (l : List Nd) (left deep : Int),left < 0 -> fewL l left deep = left
 | [],_,_,_ => rfl
 | _ :: _,left,deep,h => by simp only [fewL]; rw [if_pos h]
def noneE : Ev:=⟨0,⟨#[]⟩,⟨#[]⟩⟩
mutual
def visN : Nd -> List Ev
 | .mk k t v kids => if okShape k kids.length then ⟨k,t,v⟩ :: (visL kids ++ endL k) else [noneE]
def visL : List Nd -> List Ev
 | [] => []
 | n :: r => visN n ++ visL r
end
theorem visL_append (a b : List Nd) : visL (a ++ b) = visL a ++ visL b:=by
 induction a with
 | nil => rfl
 | cons n r ih => simp [visL,ih,List.append_assoc]
mutual
theorem vis_flat : ∀ n : Nd,shaped n = true -> visN n = flat n
 | .mk k t v kids,h => by
  simp only [shaped,Bool.and_eq_true] at h
  simp only [visN,flat,h.1,if_true,visL_flat kids h.2]
theorem visL_flat : ∀ l : List Nd,shapedL l = true -> visL l = flatL l
 | [],_ => rfl
 | n :: r,h => by
  simp only [shapedL,Bool.and_eq_true] at h
  simp only [visL,flatL,vis_flat n h.1,visL_flat r h.2]
end
theorem none_step (st : List Pt) : stepE st noneE = 19:=by
 cases st with
 | nil => rfl
 | cons p r =>
  simp only [stepE]
  rw [if_pos (.inl (by decide))]
def firstE : List Pt -> List Ev -> Int
 | _,[] => 0
 | st,x :: l => if stepE st x = 0 then firstE (stepS st x) l else stepE st x
theorem firstE_append : ∀ (a b : List Ev) (st : List Pt),firstE st (a ++ b) = if firstE st a = 0 then firstE (runS st a) b else firstE st a
 | [],b,st => by simp [firstE,runS]
 | x :: a,b,st => by
  simp only [List.cons_append,firstE]
  split
  ·rw [firstE_append a b]; rfl
  ·rfl
theorem firstE_ok : ∀ (l : List Ev) (st : List Pt),firstE st l = 0 ↔ allOk st l
 | [],st => by simp [firstE,allOk]
 | x :: l,st => by
  simp only [firstE,allOk]
  split
  ·rename_i h; rw [firstE_ok l]; simp [h]
  ·rename_i h; simp [h]
mutual
theorem goes_first : ∀ (n : Nd) (s : List Ev × List Pt),(goesN n s).2 = firstE s.2 (visN n) /\ ((goesN n s).2 = 0 -> (goesN n s).1.2 = runS s.2 (visN n))
 | .mk k t v kids,s => by
  simp only [goesN,visN]
  cases hs : okShape k kids.length with
  | false => simp [firstE,none_step]
  | true =>
   rw [if_neg (by decide),if_pos rfl]
   by_cases h0 : stepE s.2 ⟨k,t,v⟩ = 0
   ·have hk:=goesL_first kids (s.1 ++ [⟨k,t,v⟩],stepS s.2 ⟨k,t,v⟩)
    simp only at hk
    rw [if_neg (by rw [h0]; decide)]
    simp only [firstE,if_pos h0,firstE_append,<- hk.1]
    by_cases h1 : (goesL kids (s.1 ++ [⟨k,t,v⟩],stepS s.2 ⟨k,t,v⟩)).2 = 0
    ·rw [if_neg (by rw [h1]; decide),if_pos h1]
     have h2:=hk.2 h1
     cases ho : opensK k with
     | true =>
      rw [if_pos rfl]
      simp only [endL,ho,if_true,firstE,<- h2]
      by_cases h3 : stepE (goesL kids (s.1 ++ [⟨k,t,v⟩],stepS s.2 ⟨k,t,v⟩)).1.2 (endE (endK k)) = 0
      ·rw [if_neg (by rw [h3]; decide),if_pos h3]
       refine ⟨rfl,fun _ => ?_⟩
       have hr : ∀ (st : List Pt) (x : Ev) (l : List Ev),runS st (x :: l) = runS (stepS st x) l:=fun _ _ _ => rfl
       rw [hr,runS_append,<- h2]; rfl
      ·rw [if_pos h3,if_neg h3]
       exact ⟨rfl,fun h => absurd h h3⟩
     | false =>
      rw [if_neg (by decide)]
      simp only [endL,ho,if_false,Bool.false_eq_true,firstE,List.append_nil]
      exact ⟨trivial,fun _ => h2⟩
    ·rw [if_pos h1,if_neg h1]
     exact ⟨rfl,fun h => absurd h h1⟩
   ·rw [if_pos h0]
    simp only [firstE,if_neg h0]
    exact ⟨trivial,fun h => absurd h h0⟩
theorem goesL_first : ∀ (l : List Nd) (s : List Ev × List Pt),(goesL l s).2 = firstE s.2 (visL l) /\ ((goesL l s).2 = 0 -> (goesL l s).1.2 = runS s.2 (visL l))
 | [],s => by simp [goesL,visL,firstE,runS]
 | n :: r,s => by
  have hn:=goes_first n s
  simp only [goesL,visL,firstE_append,<- hn.1]
  by_cases h : (goesN n s).2 = 0
  ·have hr:=goesL_first r (goesN n s).1
   rw [if_neg (by rw [h]; decide),if_pos h,runS_append,<- hn.2 h]
   exact hr
  ·rw [if_pos h,if_neg h]
   exact ⟨rfl,fun h' => absurd h' h⟩
end
def mayN (n : Nd) : Int:=firstE [topP] (visN n)
theorem mayN_goes (n : Nd) : (goesN n ([],[topP])).2 = mayN n:=(goes_first n ([],[topP])).1
theorem may_shaped {n : Nd} (h : mayN n = 0) : shaped n = true /\ allOk [topP] (flat n):=by
 have h1:=(goesN_ok n ([],[topP]) (by rw [mayN_goes]; exact h)).1
 refine ⟨h1,?_⟩
 rw [<- vis_flat n h1]
 exact (firstE_ok _ _).1 h
mutual
theorem flat_len : ∀ n : Nd,(flat n).length <= 2 * sizeN n
 | .mk k t v kids => by
  have:=flatL_len kids
  simp only [flat,sizeN,List.length_cons,List.length_append,endL]
  split <;> simp <;> omega
theorem flatL_len : ∀ l : List Nd,(flatL l).length <= 2 * sizeL l
 | [] => by simp [flatL]
 | n :: r => by
  have h1:=flat_len n
  have h2:=flatL_len r
  simp only [flatL,sizeL,List.length_append]
  omega
end
mutual
theorem flat_deep : ∀ (n : Nd) (st : List Pt),shaped n = true -> Good st -> allOk st (flat n) -> (runS st (flat n)).length = st.length
 | .mk k t v kids,st,hs,hg,ha => by
  simp only [shaped,Bool.and_eq_true] at hs
  simp only [flat,allOk] at ha
  have hb:=(allOk_append _ _ _).1 ha.2
  have hg1:=good_step hg ⟨k,t,v⟩
  have hk:=flatL_deep kids (stepS st ⟨k,t,v⟩) hs.2 hg1 hb.1
  have hr : runS st (flat (.mk k t v kids)) = runS (runS (stepS st ⟨k,t,v⟩) (flatL kids)) (endL k):=by
   simp only [flat]; rw [show runS st (⟨k,t,v⟩ :: (flatL kids ++ endL k)) = runS (stepS st ⟨k,t,v⟩) (flatL kids ++ endL k) from rfl,runS_append]
  rw [hr]
  obtain ⟨p,r,rfl⟩:=hg.ne
  have he:=shape_head hs.1
  cases ho : opensK k with
  | true =>
   simp only [endL,ho,if_true] at hb ⊢
   have h1 : (stepS (p :: r) ⟨k,t,v⟩).length = r.length + 2:=by
    unfold stepS; rw [if_pos ha.1]; simp [goS,he,ho]
   have h2 : stepE (runS (stepS (p :: r) ⟨k,t,v⟩) (flatL kids)) (endE (endK k)) = 0:=hb.2.1
   have hl:=hk
   generalize runS (stepS (p :: r) ⟨k,t,v⟩) (flatL kids) = st2 at *
   have h3 : runS st2 [endE (endK k)] = stepS st2 (endE (endK k)):=rfl
   rw [h3]
   unfold stepS
   rw [if_pos h2]
   match st2,hl with
   | q :: r2,hl =>
    simp only [goS]
    rw [if_pos (by exact ends_endK k)]
    simp at hl h1 ⊢
    omega
   | [],hl => rw [h1] at hl; cases hl
  | false =>
   simp only [endL,ho,if_false,Bool.false_eq_true] at hb ⊢
   have h1 : (stepS (p :: r) ⟨k,t,v⟩).length = r.length + 1:=by
    unfold stepS; rw [if_pos ha.1]; simp only [goS,he,ho,if_false,Bool.false_eq_true]; split <;> rfl
   show (runS (stepS (p :: r) ⟨k,t,v⟩) (flatL kids)).length = _
   rw [hk,h1]; rfl
theorem flatL_deep : ∀ (l : List Nd) (st : List Pt),shapedL l = true -> Good st -> allOk st (flatL l) -> (runS st (flatL l)).length = st.length
 | [],st,_,_,_ => rfl
 | n :: r,st,hs,hg,ha => by
  simp only [shapedL,Bool.and_eq_true] at hs
  simp only [flatL] at ha ⊢
  have hb:=(allOk_append _ _ _).1 ha
  rw [runS_append,flatL_deep r _ hs.2 (good_run hg _) hb.2,flat_deep n st hs.1 hg hb.1]
end
theorem may_whole {n : Nd} (h : mayN n = 0) : wholeGo 0 [topP] (flat n) = ((flat n).length,0):=by
 obtain ⟨hs,ha⟩:=may_shaped h
 rw [whole_of ha]
 have hl:=flat_deep n [topP] hs good_start ha
 have hg:=good_run good_start (flat n)
 have ht : doneB (runS [topP] (flat n)) = true:=by
  have hr:=(Taken.rel ⟨ha,rfl⟩ : Rel (flat n) (runS [topP] (flat n)))
  have:=rel_done hr
  rw [this.1,hl] at *
  have h2:=this.2
  simp at h2
  simp [h2,List.length_pos_iff,flat_ne n]
 rw [ht]
 rfl
mutual
def smallT : Nd -> Prop
 | .mk _ t v kids => t.size <= 1048576 /\ v.size <= 1048576 /\ smallL kids
def smallL : List Nd -> Prop
 | [] => True
 | n :: r => smallT n /\ smallL r
end
theorem smallL_mem : ∀ {l : List Nd},smallL l ↔ ∀ n ∈ l,smallT n
 | [] => by simp [smallL]
 | n :: r => by simp only [smallL,smallL_mem (l:=r),List.mem_cons,forall_eq_or_imp]
mutual
theorem flat_small : ∀ n : Nd,smallT n -> ∀ x ∈ flat n,x.t.size <= 1048576 /\ x.v.size <= 1048576
 | .mk k t v kids,h,x,hx => by
  simp only [flat] at hx
  rcases List.mem_cons.1 hx with rfl | hx
  ·exact ⟨h.1,h.2.1⟩
  ·rcases List.mem_append.1 hx with hx | hx
   ·exact flatL_small kids h.2.2 x hx
   ·simp only [endL] at hx
    split at hx
    ·simp at hx; subst hx; exact ⟨Nat.zero_le _,Nat.zero_le _⟩
    ·cases hx
theorem flatL_small : ∀ l : List Nd,smallL l -> ∀ x ∈ flatL l,x.t.size <= 1048576 /\ x.v.size <= 1048576
 | [],_,x,hx => by cases hx
 | n :: r,h,x,hx => by
  simp only [flatL] at hx
  rcases List.mem_append.1 hx with hx | hx
  ·exact flat_small n h.1 x hx
  ·exact flatL_small r h.2 x hx
end
open Go.RowKit
theorem ret_bool {a b : Bool} (h : a = b) : Ending.returned (.bool a) = .returned (.bool b):=by rw [h]
theorem ret_int {k : IntKind} {a b : Int} (h : a = b) : Ending.returned (.int k a) = .returned (.int k b):=by rw [h]
theorem may_any (r : Int) (w : World) :
 Calls Tryz.prog 158 #[.int .i64 r] w fun e w' => e = .returned (.bool (mayB r)) /\ w = w':=by
 go_enter Tryz.func158,Tryz.ntmps158
 go_wp2
 all_goals go_ret
 all_goals refine ⟨ret_bool ?_,rfl⟩
 all_goals simp only [mayB]
 all_goals (rw [Bool.eq_iff_iff]; simp; try omega)
theorem isch_any (r : Int) (w : World) :
 Calls Tryz.prog 282 #[.int .i64 r] w fun e w' => e = .returned (.bool (mayB r)) /\ w = w':=by
 go_enter Tryz.func282,Tryz.ntmps282
 go_wp2
 all_goals go_ret
 all_goals refine ⟨ret_bool ?_,rfl⟩
 all_goals simp only [mayB]
 all_goals (rw [Bool.eq_iff_iff]; simp; try omega)
theorem long_any (r : Int) (w : World) :
 Calls Tryz.prog 159 #[.int .i64 r] w fun e w' => e = .returned (.int .i64 (longI r)) /\ w = w':=by
 go_enter Tryz.func159,Tryz.ntmps159
 go_wp2
 all_goals go_ret
 all_goals refine ⟨ret_int ?_,rfl⟩
 all_goals simp only [longI]
 all_goals repeat (first | rw [if_pos (by omega)] | rw [if_neg (by omega)])
theorem i64_and63 (r : Int) (h0 : 0 <= r) (h1 : r < 9223372036854775808) : bits .and .i64 r 63 = r % 64 :=
 bits_mask .i64 63 (by decide) (fun n a b => by rw [IntKind.wrap_i64]; omega) 6 (by decide) r h0 h1
theorem tail_any (r : Int) (h0 : 0 <= r) (h1 : r <= 1114111) (w : World) :
 Calls Tryz.prog 283 #[.int .i64 r] w fun e w' => e = .returned (.int .u8 (128 + r % 64)) /\ w = w':=by
 have e6:=i64_and63 r h0 (by omega)
 have e7 : r % 64 % 256 = r % 64:=by omega
 have e8:=u8_or128 (r % 64) (by omega) (by omega)
 go_enter Tryz.func283,Tryz.ntmps283
 go_wp2
 all_goals go_ret
 exact ⟨rfl,rfl⟩
theorem Tryz.info5 : (Tryz.prog.info? 5).map (fun i => (i.zero,i.size,i.bytes)) = some (some (.int .u8 0),1,1):=by kernel_rfl
theorem Tryz.info3 : (Tryz.prog.info? 3).map (fun i => (i.zero,i.size,i.bytes)) = some (some (.int .i64 0),1,8):=by kernel_rfl
end Go.Proofs.YtbnppjmmlfncmaaGreatDoor
namespace Go
def Exit.fwd (P : Program) (c : Code) (Q : Exit -> Act -> World -> Prop) : Nat -> Exit -> Act -> World -> Prop
 | 0,.goto _,_,_ => False
 | n + 1,.goto l,a,w => ∃ rest,findLabel c l = some rest /\ rest.wp P (Exit.fwd P c Q n) a w
 | _,e,a,w => Q e a w
section
variable {P : Program} {a : Act} {w : World} {Q : Exit -> Act -> World -> Prop} {c : Code}
theorem Exit.fwd_ret (n : Nat) : Exit.fwd P c Q n .ret a w = Q .ret a w:=by cases n <;> rfl
theorem Exit.fwd_goto (n l : Nat) (rest : Code) (h : findLabel c l = some rest) (k : rest.wp P (Exit.fwd P c Q n) a w) : Exit.fwd P c Q (n + 1) (.goto l) a w:=⟨rest,h,k⟩
theorem wp_scope_fwd (n : Nat) (first : c.wp P (Exit.fwd P c Q n) a w) : (Code.scope c).wp P Q a w:=by
 intro b k cs
 have key : ∀ n (body : Code) a w,body.wp P (Exit.fwd P c Q n) a w -> ∃ e a' w',Q e a' w' /\ Arrives P (lone (b.at a (.code body :: .inScope c :: k)) cs w) b k cs e a' w':=by
  intro n
  induction n with
  | zero =>
   intro body a w h
   obtain ⟨e,a₁,w₁,hq,harr⟩:=h b (.inScope c :: k) cs
   cases e with
   | normal => exact ⟨.normal,a₁,w₁,hq,Steps.trans harr (.one step_inScope)⟩
   | exit id => exact ⟨.exit id,a₁,w₁,hq,fun k' hk => harr k' (by simp [exitTo,hk])⟩
   | goto l' => exact hq.elim
   | ret => exact ⟨_,a₁,w₁,hq,harr⟩
   | panic ch => exact ⟨_,a₁,w₁,hq,harr⟩
   | outgrown => exact ⟨_,a₁,w₁,hq,harr⟩
  | succ n ih =>
   intro body a w h
   obtain ⟨e,a₁,w₁,hq,harr⟩:=h b (.inScope c :: k) cs
   cases e with
   | normal => exact ⟨.normal,a₁,w₁,hq,Steps.trans harr (.one step_inScope)⟩
   | exit id => exact ⟨.exit id,a₁,w₁,hq,fun k' hk => harr k' (by simp [exitTo,hk])⟩
   | goto l' =>
    obtain ⟨rest,hf,hr⟩:=hq
    have hg : gotoIn l' (.inScope c :: k) = some (.code rest :: .inScope c :: k):=by simp [gotoIn,hf]
    obtain ⟨e₂,a₂,w₂,hq₂,harr₂⟩:=ih rest a₁ w₁ hr
    exact ⟨e₂,a₂,w₂,hq₂,.of_steps (harr _ hg) harr₂⟩
   | ret => exact ⟨_,a₁,w₁,hq,harr⟩
   | panic ch => exact ⟨_,a₁,w₁,hq,harr⟩
   | outgrown => exact ⟨_,a₁,w₁,hq,harr⟩
 obtain ⟨e,a₁,w₁,hq,harr⟩:=key n c a w first
 cases e with
 | normal => exact ⟨.normal,a₁,w₁,hq,.head step_scope harr⟩
 | exit id => exact ⟨.exit id,a₁,w₁,hq,fun k' hk => .head step_scope (harr k' hk)⟩
 | goto l' => exact ⟨.goto l',a₁,w₁,hq,fun k' hk => .head step_scope (harr k' hk)⟩
 | ret => exact ⟨_,a₁,w₁,hq,.of_steps (.one step_scope) harr⟩
 | panic ch => exact ⟨_,a₁,w₁,hq,.of_steps (.one step_scope) harr⟩
 | outgrown => exact ⟨_,a₁,w₁,hq,.of_steps (.one step_scope) harr⟩
end
end Go
namespace Go.Proofs.YtbnppjmmlfncmaaGreatDoor
open Go.RowKit
theorem bV_b8 (n : Int) (h0 : 0 <= n) (h1 : n < 256) : bV (b8 n) = .int .u8 n:=(bV_of n h0 h1).symm
theorem put_str {w : World} {base : Nat} {v : Value} (l : List UInt8) (h : ORow w base 5 v (l.map bV)) : (convert 39 9 v).run Tryz.prog w = .ok (.string ⟨l.toArray⟩) w :=
 run_string_of_row _ _ l Tryz.underlying39 Tryz.underlying5 Tryz.underlying9 h
set_option maxHeartbeats 400000 in
theorem put_2 (r : Int) (w : World) (hm : mayB r = true) (h0 : 128 <= r) (h1 : r < 2048) :
 Calls Tryz.prog 281 #[.int .i64 r] w fun e w' => e = .returned (.tuple #[.string ⟨#[b8 (192 + r / 64),b8 (128 + r % 64)]⟩,.bool true]) /\ Below w.heap.size w w':=by
 have e1:=u8_or192 (r / 64) (by omega) (by omega)
 have hnil:=ORow.nil w w.heap.size 5
 go_enter Tryz.func281,Tryz.ntmps281
 go_wp2
 refine wp_scope_fwd 2 ?_
 generalize hQ : Exit.fwd _ _ _ 2 = Q2
 go_wp2_with (first
  | (go_at_call 282; refine (isch_any _ _).mono ?_; rintro e w' ⟨rfl,rfl⟩)
  | (at_builtin; refine wp_app1b rfl _ _ 39 rfl w.heap.size 5 (.int .u8 0) 1 Tryz.underlying39 Tryz.info5 rfl _ _ _ rfl (by assumption) rfl _ rfl (by simp [maxLen]) (by simp) (Nat.le_refl _) ?_; intro v1 w1 hown1 hb1))
 clear hnil
 go_step3
 show Q2 _ _ _
 rw [<- hQ]
 refine Exit.fwd_goto 1 _ _ rfl ?_
 generalize hQ1 : Exit.fwd _ _ _ 1 = Q1
 go_wp2_with (first
  | (go_at_call 283; refine (tail_any _ (by omega) (by omega) _).mono ?_; rintro e w' ⟨rfl,rfl⟩)
  | (at_builtin; refine wp_app1b rfl _ _ 39 rfl w.heap.size 5 (.int .u8 0) 1 Tryz.underlying39 Tryz.info5 rfl _ _ _ rfl (by assumption) rfl _ rfl (by simp [maxLen]) (by simp) hb1.size ?_; intro v2 w2 hown2 hb2))
 have hrow : ORow w2 w.heap.size 5 v2 ([b8 (192 + r / 64),b8 (128 + r % 64)].map bV):=by
  simp only [List.map_cons,List.map_nil]
  rw [bV_b8 _ (by omega) (by omega),bV_b8 _ (by omega) (by omega)]
  exact hown2
 have hstr:=put_str _ hrow
 clear hown1 hown2
 go_wp2
 rw [hstr]
 go_wp2
 rw [<- hQ1,Exit.fwd_ret]
 go_ret2
 exact ⟨rfl,hb1.trans hb2⟩
set_option maxHeartbeats 400000 in
theorem put_3 (r : Int) (w : World) (hm : mayB r = true) (h0 : 2048 <= r) (h1 : r < 65536) :
 Calls Tryz.prog 281 #[.int .i64 r] w fun e w' => e = .returned (.tuple #[.string ⟨#[b8 (224 + r / 4096),b8 (128 + r / 64 % 64),b8 (128 + r % 64)]⟩,.bool true]) /\ Below w.heap.size w w':=by
 have e1:=u8_or224 (r / 4096) (by omega) (by omega)
 have hnil:=ORow.nil w w.heap.size 5
 go_enter Tryz.func281,Tryz.ntmps281
 go_wp2
 refine wp_scope_fwd 2 ?_
 generalize hQ : Exit.fwd _ _ _ 2 = Q2
 go_wp2_with (first
  | (go_at_call 282; refine (isch_any _ _).mono ?_; rintro e w' ⟨rfl,rfl⟩)
  | (at_builtin; refine wp_app1b rfl _ _ 39 rfl w.heap.size 5 (.int .u8 0) 1 Tryz.underlying39 Tryz.info5 rfl _ _ _ rfl (by exact hnil) rfl _ rfl (by simp [maxLen]) (by simp) (Nat.le_refl _) ?_; intro v1 w1 hown1 hb1))
 go_step3
 show Q2 _ _ _
 rw [<- hQ]
 refine Exit.fwd_goto 1 _ _ rfl ?_
 generalize hQ1 : Exit.fwd _ _ _ 1 = Q1
 go_wp2_with (first
  | (go_at_call 283; refine (tail_any _ (by omega) (by omega) _).mono ?_; rintro e w' ⟨rfl,rfl⟩)
  | (at_builtin; refine wp_app1b rfl _ _ 39 rfl w.heap.size 5 (.int .u8 0) 1 Tryz.underlying39 Tryz.info5 rfl _ _ _ rfl (by exact hown1) rfl _ rfl (by simp [maxLen]) (by simp) hb1.size ?_; intro v2 w2 hown2 hb2))
 go_step3
 go_wp2_with (first
  | (go_at_call 283; refine (tail_any _ (by omega) (by omega) _).mono ?_; rintro e w' ⟨rfl,rfl⟩)
  | (at_builtin; refine wp_app1b rfl _ _ 39 rfl w.heap.size 5 (.int .u8 0) 1 Tryz.underlying39 Tryz.info5 rfl _ _ _ rfl (by exact hown2) rfl _ rfl (by simp [maxLen]) (by simp) (Nat.le_trans hb1.size hb2.size) ?_; intro v3 w3 hown3 hb3))
 have hrow : ORow w3 w.heap.size 5 v3 ([b8 (224 + r / 4096),b8 (128 + r / 64 % 64),b8 (128 + r % 64)].map bV):=by
  simp only [List.map_cons,List.map_nil]
  rw [bV_b8 _ (by omega) (by omega),bV_b8 _ (by omega) (by omega),bV_b8 _ (by omega) (by omega)]
  exact hown3
 have hstr:=put_str _ hrow
 go_wp2
 rw [hstr]
 go_wp2
 rw [<- hQ1,Exit.fwd_ret]
 go_ret2
 exact ⟨rfl,((hb1.trans hb2).trans hb3)⟩
set_option maxHeartbeats 400000 in
theorem put_4 (r : Int) (w : World) (hm : mayB r = true) (h0 : 65536 <= r) (h1 : r <= 1114111) :
 Calls Tryz.prog 281 #[.int .i64 r] w fun e w' => e = .returned (.tuple #[.string ⟨#[b8 (240 + r / 262144),b8 (128 + r / 4096 % 64),b8 (128 + r / 64 % 64),b8 (128 + r % 64)]⟩,.bool true]) /\ Below w.heap.size w w':=by
 have e1:=u8_or240 (r / 262144) (by omega) (by omega)
 have hnil:=ORow.nil w w.heap.size 5
 go_enter Tryz.func281,Tryz.ntmps281
 go_wp2
 refine wp_scope_fwd 2 ?_
 generalize hQ : Exit.fwd _ _ _ 2 = Q2
 go_wp2_with (first
  | (go_at_call 282; refine (isch_any _ _).mono ?_; rintro e w' ⟨rfl,rfl⟩)
  | (go_at_call 283; refine (tail_any _ (by omega) (by omega) _).mono ?_; rintro e w' ⟨rfl,rfl⟩)
  | (at_builtin; refine wp_appNb rfl _ _ 39 rfl w.heap.size 5 (.int .u8 0) 1 Tryz.underlying39 Tryz.info5 rfl _ _ _ 2 rfl (by exact hnil) (by intro u hu; simp at hu; rcases hu with rfl | rfl <;> rfl) rfl _ rfl (by simp [maxLen]) (by simp) (Nat.le_refl _) ?_; intro v1 w1 hown1 hb1))
 go_step3
 go_wp2_with (first
  | (go_at_call 283; refine (tail_any _ (by omega) (by omega) _).mono ?_; rintro e w' ⟨rfl,rfl⟩)
  | (at_builtin; refine wp_app1b rfl _ _ 39 rfl w.heap.size 5 (.int .u8 0) 1 Tryz.underlying39 Tryz.info5 rfl _ _ _ rfl (by exact hown1) rfl _ rfl (by simp [maxLen]) (by simp) hb1.size ?_; intro v2 w2 hown2 hb2))
 go_step3
 go_wp2_with (first
  | (go_at_call 283; refine (tail_any _ (by omega) (by omega) _).mono ?_; rintro e w' ⟨rfl,rfl⟩)
  | (at_builtin; refine wp_app1b rfl _ _ 39 rfl w.heap.size 5 (.int .u8 0) 1 Tryz.underlying39 Tryz.info5 rfl _ _ _ rfl (by exact hown2) rfl _ rfl (by simp [maxLen]) (by simp) (Nat.le_trans hb1.size hb2.size) ?_; intro v3 w3 hown3 hb3))
 have hrow : ORow w3 w.heap.size 5 v3 ([b8 (240 + r / 262144),b8 (128 + r / 4096 % 64),b8 (128 + r / 64 % 64),b8 (128 + r % 64)].map bV):=by
  simp only [List.map_cons,List.map_nil]
  rw [bV_b8 _ (by omega) (by omega),bV_b8 _ (by omega) (by omega),bV_b8 _ (by omega) (by omega),bV_b8 _ (by omega) (by omega)]
  exact hown3
 have hstr:=put_str _ hrow
 go_wp2
 rw [hstr]
 go_wp2
 rw [<- hQ,Exit.fwd_ret]
 go_ret2
 exact ⟨rfl,((hb1.trans hb2).trans hb3)⟩
set_option maxHeartbeats 400000 in
theorem put_1 (r : Int) (w : World) (h0 : 0 <= r) (h1 : r < 128) :
 Calls Tryz.prog 281 #[.int .i64 r] w fun e w' => e = .returned (.tuple #[.string ⟨#[b8 r]⟩,.bool true]) /\ Below w.heap.size w w':=by
 have hm : mayB r = true:=by simp [mayB]; omega
 have hrow : ORow (w.alloc (.cells #[.int .u8 r] 5)) w.heap.size 5 (.slice (some ⟨w.heap.size,0,none⟩) 1 1) ([b8 r].map bV):=by
  simp only [List.map_cons,List.map_nil]
  rw [bV_b8 _ (by omega) (by omega)]
  exact ORow.lit w _ _ _ (Nat.le_refl _) (by simp [maxLen])
 have hstr:=put_str _ hrow
 go_enter Tryz.func281,Tryz.ntmps281
 go_wp2
 refine wp_scope_fwd 2 ?_
 generalize hQ : Exit.fwd _ _ _ 2 = Q2
 go_wp2_with (first
  | (go_at_call 282; refine (isch_any _ _).mono ?_; rintro e w' ⟨rfl,rfl⟩))
 rw [<- hQ,Exit.fwd_ret]
 go_ret2
 exact ⟨rfl,(Below.refl _ _).alloc (Nat.le_refl _) _⟩
set_option maxHeartbeats 400000 in
theorem put_no (r : Int) (w : World) (hm : mayB r = false) :
 Calls Tryz.prog 281 #[.int .i64 r] w fun e w' => e = .returned (.tuple #[.string ⟨#[]⟩,.bool false]) /\ Below w.heap.size w w':=by
 go_enter Tryz.func281,Tryz.ntmps281
 go_wp2
 refine wp_scope_fwd 2 ?_
 generalize hQ : Exit.fwd _ _ _ 2 = Q2
 go_wp2_with (first
  | (go_at_call 282; refine (isch_any _ _).mono ?_; rintro e w' ⟨rfl,rfl⟩))
 rw [<- hQ,Exit.fwd_ret]
 go_ret2
 exact ⟨rfl,Below.refl _ _⟩
def putS (r : Int) : ByteArray:=if mayB r then ⟨(putL r).toArray⟩ else ⟨#[]⟩
theorem put_any (r : Int) (w : World) :
 Calls Tryz.prog 281 #[.int .i64 r] w fun e w' => e = .returned (.tuple #[.string (putS r),.bool (mayB r)]) /\ Below w.heap.size w w':=by
 by_cases hm : mayB r = true
 ·have h0 : 0 <= r:=by simp [mayB] at hm; omega
  have h1 : r <= 1114111:=by simp [mayB] at hm; omega
  unfold putS putL
  rw [hm,if_pos rfl]
  by_cases a : r < 128
  ·rw [if_pos a]; exact put_1 r w h0 a
  ·rw [if_neg a]
   by_cases b : r < 2048
   ·rw [if_pos b]; exact put_2 r w hm (by omega) b
   ·rw [if_neg b]
    by_cases c : r < 65536
    ·rw [if_pos c]; exact put_3 r w hm (by omega) c
    ·rw [if_neg c]; exact put_4 r w hm (by omega) h1
 ·have hm : mayB r = false:=by simpa using hm
  unfold putS
  rw [hm]
  exact put_no r w hm
def IRead (w : World) (v : Value) (xs : List Int) : Prop:=∃ A c,v = .slice A xs.length c /\ (0 < xs.length -> ∃ ad : Addr,A = some ad /\ ∀ j (h : j < xs.length),w.cell? (ad.add j) = some (.int .i64 xs[j]))
def BRead (w : World) (v : Value) (xs : List UInt8) : Prop:=∃ A c,v = .slice A xs.length c /\ (0 < xs.length -> ∃ ad : Addr,A = some ad /\ ∀ j (h : j < xs.length),w.cell? (ad.add j) = some (.int .u8 (xs[j].toNat : Int)))
theorem addr_add0 (g j : Nat) : (⟨g,0,none⟩ : Addr).add j = ⟨g,j,none⟩:=by unfold Addr.add; split <;> simp_all
theorem IRead.nil (w : World) (c : Nat) : IRead w (.slice none 0 c) []:=⟨none,c,rfl,fun h => absurd h (by simp)⟩
theorem BRead.nil (w : World) (c : Nat) : BRead w (.slice none 0 c) []:=⟨none,c,rfl,fun h => absurd h (by simp)⟩
theorem IRead.of_row {w : World} {base : Nat} {e : TypeId} {v : Value} {xs : List Int} (h : ORow w base e v (xs.map iV)) : IRead w v xs:=by
 rcases h.form with ⟨rfl,hn⟩ | ⟨g,cap,rfl,_⟩
 ·have : xs = []:=by simpa using hn
  subst this
  exact IRead.nil _ _
 ·refine ⟨some ⟨g,0,none⟩,cap,by simp,fun _ => ⟨_,rfl,fun j hj => ?_⟩⟩
  obtain ⟨g',hg,_,_,hc⟩:=h.cell (k:=j) (by simpa using hj)
  injection hg with hg
  injection hg with hg
  subst hg
  rw [addr_add0,hc]
  simp [iV]
theorem BRead.of_row {w : World} {base : Nat} {e : TypeId} {v : Value} {xs : List UInt8} (h : ORow w base e v (xs.map bV)) : BRead w v xs:=by
 rcases h.form with ⟨rfl,hn⟩ | ⟨g,cap,rfl,_⟩
 ·have : xs = []:=by simpa using hn
  subst this
  exact BRead.nil _ _
 ·refine ⟨some ⟨g,0,none⟩,cap,by simp,fun _ => ⟨_,rfl,fun j hj => ?_⟩⟩
  obtain ⟨g',hg,_,_,hc⟩:=h.cell (k:=j) (by simpa using hj)
  injection hg with hg
  injection hg with hg
  subst hg
  rw [addr_add0,hc]
  simp [bV]
theorem IRead.keep {w w' : World} {v : Value} {xs : List Int} (h : IRead w v xs) (hk : ∀ p : Addr,(∃ u,w.cell? p = some u) -> w'.cell? p = w.cell? p) : IRead w' v xs:=by
 obtain ⟨A,c,hv,hr⟩:=h
 refine ⟨A,c,hv,fun hp => ?_⟩
 obtain ⟨ad,hA,hc⟩:=hr hp
 exact ⟨ad,hA,fun j hj => (hk _ ⟨_,hc j hj⟩).trans (hc j hj)⟩
theorem BRead.keep {w w' : World} {v : Value} {xs : List UInt8} (h : BRead w v xs) (hk : ∀ p : Addr,(∃ u,w.cell? p = some u) -> w'.cell? p = w.cell? p) : BRead w' v xs:=by
 obtain ⟨A,c,hv,hr⟩:=h
 refine ⟨A,c,hv,fun hp => ?_⟩
 obtain ⟨ad,hA,hc⟩:=hr hp
 exact ⟨ad,hA,fun j hj => (hk _ ⟨_,hc j hj⟩).trans (hc j hj)⟩
theorem cell_lt {w : World} {p : Addr} {u : Value} (h : w.cell? p = some u) : p.block < w.heap.size:=by
 rcases Nat.lt_or_ge p.block w.heap.size with hlt | hge
 ·exact hlt
 ·unfold World.cell? at h
  rw [Array.getElem?_eq_none hge] at h
  simp at h
theorem IRead.below {w w' : World} {v : Value} {xs : List Int} (h : IRead w v xs) (hb : Below w.heap.size w w') : IRead w' v xs :=
 h.keep fun _ ⟨_,hu⟩ => hb.cell (cell_lt hu)
theorem BRead.below {w w' : World} {v : Value} {xs : List UInt8} (h : BRead w v xs) (hb : Below w.heap.size w w') : BRead w' v xs :=
 h.keep fun _ ⟨_,hu⟩ => hb.cell (cell_lt hu)
end Go.Proofs.YtbnppjmmlfncmaaGreatDoor
