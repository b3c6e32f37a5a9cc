/-
  Where one stands behind some events, looked at from their beginning (the reference's At and own) and held against the machine of what is open. No program is read here.
  Whatever could be taken can be gone on with to a document: the machine's part. No program is read here.
  Trees as plain data: the walk of a node, which nodes have one, and the walk held against the machine of events. No program is read here.
  Every document is the walk of one node: what has been taken is gathered into nodes, event by event. No program is read here.
  Two nodes that have a walk have the same walk just if they are the same. No program is read here.
-/
import Derived.Test.YtbnppjmmlfncmaaGreatDoorIsA03
namespace Go.Proofs.YtbnppjmmlfncmaaGreatDoor
def atStep (S : List Nat) (i : Nat) (k : Int) : List Nat:=if opensK k then i :: S else if endsK k then S.tail else S
def atGo : Nat -> List Nat -> List Ev -> List Nat
 | _,S,[] => S
 | i,S,x :: l => atGo (i + 1) (atStep S i x.k) l
def atL (l : List Ev) : List Nat:=atGo 0 [] l
theorem atGo_snoc (l : List Ev) (x : Ev) : ∀ (i : Nat) (S : List Nat),atGo i S (l ++ [x]) = atStep (atGo i S l) (i + l.length) x.k:=by
 induction l with
 | nil => intro i S; rfl
 | cons y l ih => intro i S; simp only [List.cons_append,atGo,ih,List.length_cons]; congr 1; omega
theorem atL_snoc (l : List Ev) (x : Ev) : atL (l ++ [x]) = atStep (atL l) l.length x.k:=by
 unfold atL; rw [atGo_snoc]; simp
theorem atL_take (l : List Ev) (k : Nat) (h : k < l.length) : atL (l.take (k + 1)) = atStep (atL (l.take k)) k (l[k]).k:=by
 rw [List.take_succ_eq_append_getElem h,atL_snoc,List.length_take,Nat.min_eq_left (by omega)]
theorem atL_len (l : List Ev) : (atL l).length <= l.length:=by
 have key : ∀ (l : List Ev) (i : Nat) (S : List Nat),(atGo i S l).length <= S.length + l.length:=by
  intro l
  induction l with
  | nil => intro i S; simp [atGo]
  | cons x l ih =>
   intro i S
   have:=ih (i + 1) (atStep S i x.k)
   have h2 : (atStep S i x.k).length <= S.length + 1:=by unfold atStep; repeat' split
                                                         all_goals simp; try omega
   simp only [atGo,List.length_cons]; omega
 have:=key l 0 []
 simp only [List.length_nil] at this
 unfold atL
 omega
def ownStep (s : Int × List Nat) (i : Nat) (k : Int) : Int × List Nat :=
 if endsK k then (s.1 - 1,s.2) else (if opensK k then s.1 + 1 else s.1,if s.1 = 0 then s.2 ++ [i] else s.2)
def ownGo : Nat -> Int × List Nat -> List Ev -> Int × List Nat
 | _,s,[] => s
 | i,s,x :: l => ownGo (i + 1) (ownStep s i x.k) l
def ownP (l : List Ev) (at' : Nat) : Int × List Nat:=ownGo (at' + 1) (0,[]) (l.drop (at' + 1))
def ownL (l : List Ev) (at' : Nat) : List Nat:=(ownP l at').2
theorem ownGo_snoc (l : List Ev) (x : Ev) : ∀ (i : Nat) (s : Int × List Nat),ownGo i s (l ++ [x]) = ownStep (ownGo i s l) (i + l.length) x.k:=by
 induction l with
 | nil => intro i s; rfl
 | cons y l ih => intro i s; simp only [List.cons_append,ownGo,ih,List.length_cons]; congr 1; omega
theorem ownP_snoc (l : List Ev) (x : Ev) (p : Nat) (h : p < l.length) : ownP (l ++ [x]) p = ownStep (ownP l p) l.length x.k:=by
 unfold ownP
 rw [List.drop_append_of_le_length (by omega),ownGo_snoc]
 congr 1
 rw [List.length_drop]; omega
def ownT (l : List Ev) (p k : Nat) : Int × List Nat:=ownGo (p + 1) (0,[]) ((l.take k).drop (p + 1))
theorem ownT_start (l : List Ev) (p : Nat) : ownT l p (p + 1) = (0,[]):=by
 unfold ownT
 rw [List.drop_of_length_le (by simp; omega)]
 rfl
theorem ownT_end (l : List Ev) (p k : Nat) (h : l.length <= k) : ownT l p k = ownP l p:=by
 unfold ownT ownP
 rw [List.take_of_length_le h]
theorem ownT_step (l : List Ev) (p k : Nat) (h1 : p + 1 <= k) (h : k < l.length) : ownT l p (k + 1) = ownStep (ownT l p k) k (l[k]).k:=by
 unfold ownT
 rw [List.take_succ_eq_append_getElem h,List.drop_append_of_le_length (by simp; omega),ownGo_snoc]
 congr 1
 rw [List.length_drop,List.length_take]; omega
theorem own_inv : ∀ (l : List Ev) (i : Nat) (s : Int × List Nat) (B : Nat),(∀ p ∈ s.2,p < B) -> s.2.length <= i -> i + l.length <= B -> (∀ p ∈ (ownGo i s l).2,p < B) /\ (ownGo i s l).2.length <= i + l.length:=by
 intro l
 induction l with
 | nil => intro i s B h1 h2 _; exact ⟨h1,by simp only [ownGo,List.length_nil]; omega⟩
 | cons x l ih =>
  intro i s B h1 h2 h3
  simp only [List.length_cons] at h3 ⊢
  have:=ih (i + 1) (ownStep s i x.k) B (by
   intro p hp
   unfold ownStep at hp
   split at hp
   ·exact h1 p hp
   ·simp only at hp
    split at hp
    ·rcases List.mem_append.1 hp with hp | hp
     ·exact h1 p hp
     ·have:=List.mem_singleton.1 hp; omega
    ·exact h1 p hp) (by
   unfold ownStep
   split
   ·simp only; omega
   ·simp only
    split
    ·simp; omega
    ·omega) (by omega)
  exact ⟨this.1,by have:=this.2; simp only [ownGo]; omega⟩
theorem ownT_lt (l : List Ev) (p k : Nat) (hp : p + 1 <= k) (hk : k <= l.length) : (∀ q ∈ (ownT l p k).2,q < l.length) /\ (ownT l p k).2.length <= l.length:=by
 have h : p + 1 + ((l.take k).drop (p + 1)).length <= l.length:=by rw [List.length_drop,List.length_take]; omega
 have:=own_inv ((l.take k).drop (p + 1)) (p + 1) (0,[]) l.length (fun _ h => by cases h) (by simp) h
 exact ⟨this.1,by have h2:=this.2; unfold ownT; omega⟩
theorem ownT_deep (l : List Ev) (p k : Nat) (hk : k <= l.length) : -(l.length : Int) <= (ownT l p k).1 /\ (ownT l p k).1 <= l.length:=by
 have key : ∀ (l : List Ev) (i : Nat) (s : Int × List Nat),s.1 - l.length <= (ownGo i s l).1 /\ (ownGo i s l).1 <= s.1 + l.length:=by
  intro l
  induction l with
  | nil => intro i s; simp [ownGo]
  | cons x l ih =>
   intro i s
   have:=ih (i + 1) (ownStep s i x.k)
   have h2 : s.1 - 1 <= (ownStep s i x.k).1 /\ (ownStep s i x.k).1 <= s.1 + 1:=by
    unfold ownStep; repeat' split
    all_goals simp only; omega
   simp only [ownGo,List.length_cons]; omega
 have:=key ((l.take k).drop (p + 1)) (p + 1) (0,[])
 have h2 : ((l.take k).drop (p + 1)).length <= l.length:=by rw [List.length_drop,List.length_take]; omega
 unfold ownT
 simp only at this
 omega
def kindAt (l : List Ev) (i : Nat) : Int:=match l[i]? with | some x => x.k | none => 0
def textAt (l : List Ev) (i : Nat) : List UInt8:=match l[i]? with | some x => x.t.data.toList | none => []
def lastK (l : List Ev) (out : List Nat) : Int:=match out.getLast? with | some i => kindAt l i | none => 0
def keysK (l : List Ev) (k : Int) (out : List Nat) : List (List UInt8):=((out.filter fun i => decide (kindAt l i = k)).map (textAt l)).reverse
def keyK (kind : Int) : Int:=if kind = 7 then 8 else if kind = 10 then 11 else -1
def Inner (l : List Ev) (j : Nat) (pl : Nat) (p : Pt) : Prop :=
 pl < l.length /\ kindAt l pl = p.kind /\ opensK p.kind = true /\ (ownP l pl).1 = (j : Int) /\ lastK l (ownL l pl) = p.last /\ keysK l (keyK p.kind) (ownL l pl) = p.keys /\ ∀ i ∈ ownL l pl,i < l.length
def RelGo (l : List Ev) : Nat -> List Nat -> List Pt -> Prop
 | _,[],[p] => p.kind = 0 /\ p.keys = [] /\ (p.last = 0 ↔ l = [])
 | j,pl :: ps,p :: st => Inner l j pl p /\ RelGo l (j + 1) ps st
 | _,_,_ => False
def Rel (l : List Ev) (st : List Pt) : Prop:=RelGo l 0 (atL l) st
theorem rel_start : Rel [] [topP]:=⟨rfl,rfl,fun _ => rfl,fun _ => rfl⟩
theorem RelGo.len {l : List Ev} : ∀ {j : Nat} {ps : List Nat} {st : List Pt},RelGo l j ps st -> st.length = ps.length + 1
 | _,[],[_],_ => rfl
 | _,[],[],h => h.elim
 | _,[],_ :: _ :: _,h => h.elim
 | _,_ :: _,_ :: _,h => by simp [RelGo.len h.2]
 | _,_ :: _,[],h => h.elim
theorem kindAt_app {l : List Ev} {i : Nat} (x : Ev) (h : i < l.length) : kindAt (l ++ [x]) i = kindAt l i:=by
 unfold kindAt; rw [List.getElem?_append_left h]
theorem textAt_app {l : List Ev} {i : Nat} (x : Ev) (h : i < l.length) : textAt (l ++ [x]) i = textAt l i:=by
 unfold textAt; rw [List.getElem?_append_left h]
theorem kindAt_new (l : List Ev) (x : Ev) : kindAt (l ++ [x]) l.length = x.k:=by
 unfold kindAt; simp
theorem textAt_new (l : List Ev) (x : Ev) : textAt (l ++ [x]) l.length = x.t.data.toList:=by
 unfold textAt; simp
theorem lastK_app {l : List Ev} {out : List Nat} (x : Ev) (h : ∀ i ∈ out,i < l.length) : lastK (l ++ [x]) out = lastK l out:=by
 unfold lastK
 cases hl : out.getLast? with
 | none => rfl
 | some i => exact kindAt_app x (h i (List.mem_of_getLast? hl))
theorem keysK_app {l : List Ev} {out : List Nat} (k : Int) (x : Ev) (h : ∀ i ∈ out,i < l.length) : keysK (l ++ [x]) k out = keysK l k out:=by
 unfold keysK
 congr 1
 rw [List.filter_congr (q:=fun i => decide (kindAt l i = k)) (fun i hi => by rw [kindAt_app x (h i hi)])]
 exact List.map_congr_left fun i hi => textAt_app x (h i ((List.mem_filter.1 hi).1))
theorem lastK_new (l : List Ev) (out : List Nat) (x : Ev) : lastK (l ++ [x]) (out ++ [l.length]) = x.k:=by
 unfold lastK; rw [List.getLast?_append]; simp [kindAt_new]
theorem keysK_new {l : List Ev} {out : List Nat} (k : Int) (x : Ev) (h : ∀ i ∈ out,i < l.length) : keysK (l ++ [x]) k (out ++ [l.length]) = (if x.k = k then [x.t.data.toList] else []) ++ keysK l k out:=by
 rw [<- keysK_app k x h]
 unfold keysK
 rw [List.filter_append]
 by_cases hk : x.k = k
 ·rw [if_pos hk]
  simp [kindAt_new,hk,textAt_new]
 ·rw [if_neg hk]
  simp [kindAt_new,hk]
theorem Inner.far {l : List Ev} {j pl : Nat} {p : Pt} (h : Inner l j pl p) (hj : 0 < j) (x : Ev) {j' : Nat} (hj' : (j' : Int) = (ownStep (j,[]) 0 x.k).1) : Inner (l ++ [x]) j' pl p:=by
 obtain ⟨h1,h2,h3,h4,h5,h6,h7⟩:=h
 have e:=ownP_snoc l x pl h1
 have ho : ownL (l ++ [x]) pl = ownL l pl:=by
  unfold ownL
  rw [e]
  unfold ownStep
  rw [h4]
  split
  ·rfl
  ·simp only
   rw [if_neg (by omega)]
 refine ⟨by simp; omega,by rw [kindAt_app x h1]; exact h2,h3,?_,?_,?_,?_⟩
 ·rw [e,hj']
  unfold ownStep
  rw [h4]
  split <;> rfl
 ·rw [ho,lastK_app x h7]; exact h5
 ·rw [ho,keysK_app _ x h7]; exact h6
 ·rw [ho]; intro i hi; have:=h7 i hi; simp; omega
theorem RelGo.far {l : List Ev} (x : Ev) (hl : l ≠ []) : ∀ {j : Nat} {ps : List Nat} {st : List Pt},RelGo l j ps st -> 0 < j -> ∀ {j' : Nat},(j' : Int) = (ownStep (j,[]) 0 x.k).1 -> RelGo (l ++ [x]) j' ps st
 | _,[],[_],h,_,_,_ => ⟨h.1,h.2.1,by simp [h.2.2,hl]⟩
 | _,[],[],h,_,_,_ => h.elim
 | _,[],_ :: _ :: _,h,_,_,_ => h.elim
 | j,_ :: _,_ :: _,h,hj,j',hj' => ⟨h.1.far hj x hj',RelGo.far x hl h.2 (by omega) (by
  unfold ownStep at hj' ⊢
  split at hj'
  ·rename_i he; simp only at hj'; rw [if_pos he]; simp only; omega
  ·rename_i he; simp only at hj'; rw [if_neg he]; simp only
   split at hj'
   ·rename_i ho; rw [if_pos ho]; omega
   ·rename_i ho; rw [if_neg ho]; omega)⟩
 | _,_ :: _,[],h,_,_,_ => h.elim
theorem Inner.near {l : List Ev} {pl : Nat} {p : Pt} (h : Inner l 0 pl p) (x : Ev) (he : endsK x.k = false) {j' : Nat} (hj' : (j' : Int) = if opensK x.k then 1 else 0) (ks : List (List UInt8)) (hks : (if x.k = keyK p.kind then [x.t.data.toList] else []) ++ p.keys = ks) :
 Inner (l ++ [x]) j' pl { p with last:=x.k,keys:=ks }:=by
 obtain ⟨h1,h2,h3,h4,h5,h6,h7⟩:=h
 have e:=ownP_snoc l x pl h1
 have ho : ownL (l ++ [x]) pl = ownL l pl ++ [l.length]:=by
  unfold ownL
  rw [e]
  unfold ownStep
  rw [h4,he,if_neg (by decide)]
  simp only
  rw [if_pos (by rfl)]
 refine ⟨by simp; omega,by rw [kindAt_app x h1]; exact h2,h3,?_,?_,?_,?_⟩
 ·rw [e,hj']
  unfold ownStep
  rw [h4,he,if_neg (by decide)]
  simp only
  split <;> rfl
 ·rw [ho,lastK_new]
 ·rw [ho,keysK_new _ x h7,h6]; exact hks
 ·rw [ho]
  intro i hi
  rcases List.mem_append.1 hi with hi | hi
  ·have:=h7 i hi; simp; omega
  ·have:=List.mem_singleton.1 hi; simp; omega
theorem Inner.fresh (l : List Ev) (x : Ev) (ho : opensK x.k = true) : Inner (l ++ [x]) 0 l.length ⟨x.k,0,[]⟩:=by
 have e : ownP (l ++ [x]) l.length = (0,[]):=by
  unfold ownP; rw [List.drop_of_length_le (by simp)]; rfl
 refine ⟨by simp,kindAt_new l x,ho,by rw [e]; rfl,by unfold ownL; rw [e]; rfl,by unfold ownL; rw [e]; rfl,by unfold ownL; rw [e]; intro i hi; cases hi⟩
theorem rel_ne {l : List Ev} {pl : Nat} {p : Pt} {j : Nat} (h : Inner l j pl p) : l ≠ []:=by
 rintro rfl; exact absurd h.1 (by simp)
theorem opens_not_ends {k : Int} (h : opensK k = true) : endsK k = false:=by
 unfold opensK at h; unfold endsK; rw [decide_eq_true_iff] at h; rw [decide_eq_false_iff_not]; omega
theorem keyK_of {kind : Int} (h : opensK kind = true) {k : Int} (hk : contB kind 0 k true = true \/ contB kind 0 k false = true \/ ∃ last te,contB kind last k te = true) (hn : ¬ (k = 8 \/ k = 11)) : k ≠ keyK kind:=by
 unfold keyK
 unfold opensK at h
 rw [decide_eq_true_iff] at h
 split
 ·omega
 ·split
  ·omega
  ·rcases hk with hk | hk | ⟨last,te,hk⟩ <;>
   ·rename_i h7 h10
    have h5 : kind = 5:=by omega
    unfold contB at hk
    rw [if_pos h5] at hk
    simp only [valueK,Bool.or_eq_true,decide_eq_true_iff] at hk
    omega
theorem keyK_is {kind last k : Int} {te : Bool} (h : opensK kind = true) (hc : contB kind last k te = true) (hk : k = 8 \/ k = 11) : k = keyK kind:=by
 unfold keyK
 unfold opensK at h
 rw [decide_eq_true_iff] at h
 unfold contB at hc
 split
 ·rename_i h7
  rw [if_neg (by omega),if_pos h7] at hc
  split at hc
  ·unfold valueK at hc; rw [decide_eq_true_iff] at hc; omega
  ·rw [decide_eq_true_iff] at hc; omega
 ·rename_i h7
  split
  ·rename_i h10
   rw [if_neg (by omega),if_neg h7,if_pos h10] at hc
   unfold contElem at hc
   split at hc
   ·assumption
   ·split at hc
    ·omega
    ·rw [decide_eq_true_iff] at hc; omega
  ·rw [if_pos (by omega)] at hc
   simp only [valueK,Bool.or_eq_true,decide_eq_true_iff] at hc
   omega
theorem rel_step {l : List Ev} {st : List Pt} (h : Rel l st) (x : Ev) (hx : stepE st x = 0) : Rel (l ++ [x]) (stepS st x):=by
 unfold stepS
 rw [if_pos hx]
 unfold Rel at h ⊢
 rw [atL_snoc]
 match hps : atL l,st,h with
 | [],[p],h =>
  obtain ⟨hf,hc⟩:=cont_of hx
  have hv : p.last = 0 /\ valueK x.k = true:=by
   unfold contB at hc
   rw [h.1,if_neg (by decide),if_neg (by decide),if_neg (by decide),Bool.and_eq_true,decide_eq_true_iff] at hc
   exact hc
  have he : endsK x.k = false:=by
   rw [Bool.eq_false_iff]; intro hc2; rw [ends_not_value hc2] at hv; exact absurd hv.2 (by decide)
  have hx0 : x.k ≠ 0:=by
   intro h0; rw [h0] at hv; exact absurd hv.2 (by decide)
  have h811 : ¬ (x.k = 8 \/ x.k = 11):=by
   have:=hv.2; unfold valueK at this; rw [decide_eq_true_iff] at this; omega
  cases ho : opensK x.k with
  | true =>
   simp only [goS,atStep,he,ho,if_true,if_false,Bool.false_eq_true]
   exact ⟨Inner.fresh l x ho,h.1,h.2.1,by simp [hx0]⟩
  | false =>
   simp only [goS,atStep,he,ho,if_false,Bool.false_eq_true,if_neg h811]
   exact ⟨h.1,h.2.1,by simp [hx0]⟩
 | pl :: ps,p :: st,h =>
  obtain ⟨hI,hR⟩:=h
  obtain ⟨hf,hc⟩:=cont_of hx
  have hl:=rel_ne hI
  have hkd:=hI.2.2.1
  cases he : endsK x.k with
  | true =>
   have hno : opensK x.k = false:=by
    rw [Bool.eq_false_iff]; intro ho; rw [opens_not_ends ho] at he; cases he
   simp only [goS,atStep,he,hno,if_true,if_false,Bool.false_eq_true]
   exact hR.far x hl (by omega) (by simp only [ownStep,he,if_true]; omega)
  | false =>
   cases ho : opensK x.k with
   | true =>
    simp only [goS,atStep,he,ho,if_true,if_false,Bool.false_eq_true]
    have hk : x.k ≠ keyK p.kind:=keyK_of hkd (.inr (.inr ⟨_,_,hc⟩)) (by unfold opensK at ho; rw [decide_eq_true_iff] at ho; omega)
    refine ⟨Inner.fresh l x ho,?_,?_⟩
    ·exact hI.near x he (j':=1) (by rw [if_pos ho]; rfl) p.keys (by rw [if_neg hk]; rfl)
    ·exact hR.far x hl (by omega) (by simp only [ownStep,he,ho,if_true,if_false,Bool.false_eq_true]; omega)
   | false =>
    have hfar : RelGo (l ++ [x]) (0 + 1) ps st:=hR.far x hl (by omega) (by simp only [ownStep,he,ho,if_false,Bool.false_eq_true])
    by_cases h3 : x.k = 8 \/ x.k = 11
    ·simp only [goS,atStep,he,ho,if_false,Bool.false_eq_true,if_pos h3]
     exact ⟨hI.near x he (j':=0) (by rw [ho]; rfl) _ (by rw [if_pos (keyK_is hkd hc h3)]; rfl),hfar⟩
    ·simp only [goS,atStep,he,ho,if_false,Bool.false_eq_true,if_neg h3]
     have hk : x.k ≠ keyK p.kind:=keyK_of hkd (.inr (.inr ⟨_,_,hc⟩)) h3
     exact ⟨hI.near x he (j':=0) (by rw [ho]; rfl) p.keys (by rw [if_neg hk]; rfl),hfar⟩
 | [],[],h => exact h.elim
 | [],_ :: _ :: _,h => exact h.elim
 | _ :: _,[],h => exact h.elim
theorem rel_run : ∀ (l m : List Ev) (st : List Pt),Rel m st -> allOk st l -> Rel (m ++ l) (runS st l)
 | [],m,st,h,_ => by rw [List.append_nil]; exact h
 | x :: l,m,st,h,ha => by
  have:=rel_run l (m ++ [x]) (stepS st x) (rel_step h x ha.1) ha.2
  rw [List.append_assoc] at this
  exact this
theorem rel_done {l : List Ev} {st : List Pt} (h : Rel l st) : doneB st = (decide (atL l = []) && decide (0 < l.length)) /\ st.length = (atL l).length + 1:=by
 refine ⟨?_,h.len⟩
 unfold Rel at h
 match hps : atL l,st,h with
 | [],[p],h =>
  simp only [doneB,decide_true,Bool.true_and]
  by_cases h0 : p.last = 0
  ·rw [h.2.2.1 h0]; simp [h0]
  ·have : l ≠ []:=fun hl => h0 (h.2.2.2 hl)
   have h2 : 0 < l.length:=List.length_pos_iff.2 this
   simp [h0,h2]
 | pl :: ps,p :: q :: st,h => simp [doneB]
 | pl :: ps,[p],h => cases ps <;> exact h.2.elim
 | [],[],h => exact h.elim
 | [],_ :: _ :: _,h => exact h.elim
 | _ :: _,[],h => exact h.elim
def KeySt : List Pt -> Prop
 | p :: _ => p.kind = 7 /\ p.last = 8
 | [] => False
def endE (k : Int) : Ev:=⟨k,⟨#[]⟩,⟨#[]⟩⟩
def endK (kind : Int) : Int:=if kind = 7 then 9 else if kind = 10 then 12 else 6
theorem ends_endK (kind : Int) : endsK (endK kind) = true:=by
 unfold endK
 split
 ·rfl
 ·split <;> rfl
theorem cont_key {kind last : Int} {te : Bool} (h : contB kind last 8 te = true) : kind = 7:=by
 unfold contB at h
 split at h
 ·simp [valueK] at h
 ·split at h
  ·assumption
  ·split at h
   ·simp [contElem] at h
   ·simp [valueK] at h
theorem key_step {st : List Pt} (hg : Good st) {x : Ev} (h : stepE st x = 0) : KeySt (stepS st x) ↔ x.k = 8:=by
 obtain ⟨p,r,rfl⟩:=hg.ne
 obtain ⟨hf,hc⟩:=cont_of h
 unfold stepS
 rw [if_pos h]
 simp only [goS]
 cases he : endsK x.k with
 | true =>
  simp only [if_true]
  have hx : x.k ≠ 8:=by
   unfold endsK at he; rw [decide_eq_true_iff] at he; omega
  cases r with
  | nil => simp [KeySt,hx]
  | cons q r =>
   have:=hg.1.2.1
   unfold opensK at this
   rw [decide_eq_true_iff] at this
   simp only [KeySt]
   omega
 | false =>
  simp only [if_false,Bool.false_eq_true]
  cases ho : opensK x.k with
  | true =>
   simp only [if_true,KeySt]
   unfold opensK at ho
   rw [decide_eq_true_iff] at ho
   omega
  | false =>
   simp only [if_false,Bool.false_eq_true]
   by_cases h3 : x.k = 8 \/ x.k = 11
   ·rw [if_pos h3]
    simp only [KeySt]
    constructor
    ·intro h; exact h.2
    ·intro h8; rw [h8] at hc; exact ⟨cont_key hc,h8⟩
   ·rw [if_neg h3]
    simp only [KeySt]
    omega
def Taken (hs : List Ev) (st : List Pt) : Prop:=allOk [topP] hs /\ runS [topP] hs = st
theorem taken_nil : Taken [] [topP]:=⟨trivial,rfl⟩
theorem Taken.rel {hs : List Ev} {st : List Pt} (h : Taken hs st) : Rel hs st:=by
 have:=rel_run hs [] [topP] rel_start h.1
 rw [h.2,List.nil_append] at this
 exact this
theorem Taken.good {hs : List Ev} {st : List Pt} (h : Taken hs st) : Good st:=by rw [<- h.2]; exact good_run good_start hs
theorem Taken.snoc {hs : List Ev} {st : List Pt} (h : Taken hs st) {x : Ev} (hx : stepE st x = 0) : Taken (hs ++ [x]) (stepS st x) :=
 ⟨(allOk_snoc _ _ _).2 ⟨h.1,by rw [h.2]; exact hx⟩,by rw [runS_snoc,h.2]⟩
theorem Taken.key {hs : List Ev} {st : List Pt} {y : Ev} (h : Taken (hs ++ [y]) st) : KeySt st ↔ y.k = 8:=by
 have ha:=(allOk_snoc _ _ _).1 h.1
 rw [<- h.2,runS_snoc]
 exact key_step (good_run good_start hs) ha.2
inductive Nd where
 | mk (k : Int) (t v : ByteArray) (kids : List Nd)
def Nd.ev : Nd -> Ev
 | .mk k t v _ => ⟨k,t,v⟩
def Nd.kids : Nd -> List Nd
 | .mk _ _ _ l => l
def endL (k : Int) : List Ev:=if opensK k then [endE (endK k)] else []
mutual
def flat : Nd -> List Ev
 | .mk k t v kids => ⟨k,t,v⟩ :: (flatL kids ++ endL k)
def flatL : List Nd -> List Ev
 | [] => []
 | n :: r => flat n ++ flatL r
end
def leafK (k : Int) : Bool:=decide (k = 1 \/ k = 2 \/ k = 3 \/ k = 4 \/ k = 11)
def okShape (k : Int) (n : Nat) : Bool:=opensK k || (leafK k && decide (n = 0)) || (decide (k = 8) && decide (n = 1))
mutual
def shaped : Nd -> Bool
 | .mk k _ _ kids => okShape k kids.length && shapedL kids
def shapedL : List Nd -> Bool
 | [] => true
 | n :: r => shaped n && shapedL r
end
theorem flat_ne (n : Nd) : flat n ≠ []:=by
 cases n with
 | mk k t v kids => simp [flat]
mutual
def goesN : Nd -> List Ev × List Pt -> (List Ev × List Pt) × Int
 | .mk k t v kids,s =>
  if okShape k kids.length = false then (s,19)
  else if stepE s.2 ⟨k,t,v⟩ ≠ 0 then (s,stepE s.2 ⟨k,t,v⟩)
  else
   let r:=goesL kids (s.1 ++ [⟨k,t,v⟩],stepS s.2 ⟨k,t,v⟩)
   if r.2 ≠ 0 then r
   else if opensK k then
    if stepE r.1.2 (endE (endK k)) ≠ 0 then (r.1,stepE r.1.2 (endE (endK k)))
    else ((r.1.1 ++ [endE (endK k)],stepS r.1.2 (endE (endK k))),0)
   else (r.1,0)
def goesL : List Nd -> List Ev × List Pt -> (List Ev × List Pt) × Int
 | [],s => (s,0)
 | n :: r,s =>
  let q:=goesN n s
  if q.2 ≠ 0 then q else goesL r q.1
end
mutual
theorem goesN_taken : ∀ (n : Nd) (s : List Ev × List Pt),Taken s.1 s.2 -> Taken (goesN n s).1.1 (goesN n s).1.2
 | .mk k t v kids,s,h => by
  simp only [goesN]
  split
  ·exact h
  ·split
   ·exact h
   ·rename_i h0
    have h1 : stepE s.2 ⟨k,t,v⟩ = 0:=Decidable.not_not.1 h0
    have hr:=goesL_taken kids (s.1 ++ [⟨k,t,v⟩],stepS s.2 ⟨k,t,v⟩) (h.snoc h1)
    split
    ·exact hr
    ·split
     ·split
      ·exact hr
      ·rename_i h2
       exact hr.snoc (Decidable.not_not.1 h2)
     ·exact hr
theorem goesL_taken : ∀ (l : List Nd) (s : List Ev × List Pt),Taken s.1 s.2 -> Taken (goesL l s).1.1 (goesL l s).1.2
 | [],s,h => by simpa only [goesL] using h
 | n :: r,s,h => by
  have hn:=goesN_taken n s h
  simp only [goesL]
  split
  ·exact hn
  ·exact goesL_taken r _ hn
end
mutual
theorem goesN_ok : ∀ (n : Nd) (s : List Ev × List Pt),(goesN n s).2 = 0 -> shaped n = true /\ (goesN n s).1.1 = s.1 ++ flat n
 | .mk k t v kids,s,h => by
  simp only [goesN] at h ⊢
  split at h
  ·exact absurd (show (19 : Int) = 0 from h) (by decide)
  ·rename_i hs
   rw [Bool.not_eq_false] at hs
   split at h
   ·rename_i h0; exact absurd h h0
   ·rename_i h0
    split at h
    ·rename_i h1; exact absurd h h1
    ·rename_i h1
     have hk:=goesL_ok kids (s.1 ++ [⟨k,t,v⟩],stepS s.2 ⟨k,t,v⟩) (Decidable.not_not.1 h1)
     rw [if_neg (by rw [hs]; decide),if_neg h0,if_neg h1]
     cases ho : opensK k with
     | true =>
      rw [ho,if_pos rfl] at h
      split at h
      ·rename_i h2; exact absurd h h2
      ·rename_i h2
       rw [if_pos rfl,if_neg h2]
       refine ⟨by simp [shaped,hs,hk.1],?_⟩
       simp only [hk.2,flat,endL,ho,if_true]
       simp
     | false =>
      rw [if_neg (by decide)]
      refine ⟨by simp [shaped,hs,hk.1],?_⟩
      simp only [hk.2,flat,endL,ho,if_false,Bool.false_eq_true]
      simp
theorem goesL_ok : ∀ (l : List Nd) (s : List Ev × List Pt),(goesL l s).2 = 0 -> shapedL l = true /\ (goesL l s).1.1 = s.1 ++ flatL l
 | [],s,_ => by simp [goesL,shapedL,flatL]
 | n :: r,s,h => by
  simp only [goesL] at h ⊢
  split at h
  ·rename_i h0; exact absurd h h0
  ·rename_i h0
   rw [if_neg h0]
   have hn:=goesN_ok n s (Decidable.not_not.1 h0)
   have hr:=goesL_ok r _ h
   exact ⟨by simp [shapedL,hn.1,hr.1],by rw [hr.2,hn.2]; simp [flatL]⟩
end
theorem allOk_append : ∀ (a b : List Ev) (st : List Pt),allOk st (a ++ b) ↔ allOk st a /\ allOk (runS st a) b
 | [],b,st => by simp [allOk,runS]
 | x :: a,b,st => by
  have:=allOk_append a b (stepS st x)
  simp only [List.cons_append,allOk,this,and_assoc]
  rfl
theorem runS_append (st : List Pt) (a b : List Ev) : runS st (a ++ b) = runS (runS st a) b:=by simp [runS]
theorem shape_head {k : Int} {n : Nat} (h : okShape k n = true) : endsK k = false:=by
 unfold okShape opensK leafK at h
 unfold endsK
 simp only [Bool.or_eq_true,Bool.and_eq_true,decide_eq_true_iff] at h
 rw [decide_eq_false_iff_not]
 omega
theorem ev_mk {k k' : Int} {t t' v v' : ByteArray} (h : (⟨k,t,v⟩ : Ev) = ⟨k',t',v'⟩) : k = k' /\ t = t' /\ v = v':=by
 injection h with h1 h2 h3
 exact ⟨h1,h2,h3⟩
theorem end_head {e : Int} {a b : List Ev} {m : Nd} (he : endsK e = true) (hm : shaped m = true) (h : endE e :: a = flat m ++ b) : False:=by
 cases m with
 | mk k t v l =>
  simp only [shaped,Bool.and_eq_true] at hm
  simp only [flat,List.cons_append] at h
  injection h with h _
  have:=(ev_mk h).1
  rw [this,shape_head hm.1] at he
  cases he
mutual
theorem flat_inj : ∀ (n m : Nd) (a b : List Ev),shaped n = true -> shaped m = true -> flat n ++ a = flat m ++ b -> n = m /\ a = b
 | .mk k t v l,.mk k' t' v' l',a,b,hn,hm,h => by
  simp only [shaped,Bool.and_eq_true] at hn hm
  simp only [flat,List.cons_append,List.append_assoc] at h
  injection h with h1 h2
  obtain ⟨rfl,rfl,rfl⟩:=ev_mk h1
  cases ho : opensK k with
  | true =>
   simp only [endL,ho,if_true,List.singleton_append] at h2
   obtain ⟨rfl,rfl⟩:=flatL_inj l l' a b (endK k) (ends_endK k) hn.2 hm.2 h2
   exact ⟨rfl,rfl⟩
  | false =>
   simp only [endL,ho,if_false,Bool.false_eq_true,List.nil_append] at h2
   have h3:=hn.1
   have h4:=hm.1
   unfold okShape at h3 h4
   simp only [ho,Bool.false_or,Bool.or_eq_true,Bool.and_eq_true,decide_eq_true_iff] at h3 h4
   match l,l',hn.2,hm.2,h2,h3,h4 with
   | [],[],_,_,h2,_,_ =>
    simp only [flatL,List.nil_append] at h2
    exact ⟨rfl,h2⟩
   | [n],[m],hn2,hm2,h2,_,_ =>
    simp only [shapedL,Bool.and_true] at hn2 hm2
    simp only [flatL,List.append_nil] at h2
    obtain ⟨rfl,rfl⟩:=flat_inj n m a b hn2 hm2 h2
    exact ⟨rfl,rfl⟩
   | [],m :: r,_,_,_,h3,h4 =>
    exfalso
    unfold leafK at h3 h4
    simp only [List.length_nil,List.length_cons,decide_eq_true_iff] at h3 h4
    omega
   | n :: r,[],_,_,_,h3,h4 =>
    exfalso
    unfold leafK at h3 h4
    simp only [List.length_nil,List.length_cons,decide_eq_true_iff] at h3 h4
    omega
   | n :: n2 :: r,_,_,_,_,h3,_ =>
    exfalso
    simp only [List.length_cons] at h3
    omega
   | [n],m :: m2 :: r,_,_,_,_,h4 =>
    exfalso
    simp only [List.length_cons] at h4
    omega
theorem flatL_inj : ∀ (l l' : List Nd) (a b : List Ev) (e : Int),endsK e = true -> shapedL l = true -> shapedL l' = true -> flatL l ++ endE e :: a = flatL l' ++ endE e :: b -> l = l' /\ a = b
 | [],[],a,b,e,_,_,_,h => by
  simp only [flatL,List.nil_append] at h
  injection h with _ h
  exact ⟨rfl,h⟩
 | [],m :: r,a,b,e,he,_,hm,h => by
  simp only [shapedL,Bool.and_eq_true] at hm
  simp only [flatL,List.nil_append,List.append_assoc] at h
  exact (end_head he hm.1 h).elim
 | n :: r,[],a,b,e,he,hn,_,h => by
  simp only [shapedL,Bool.and_eq_true] at hn
  simp only [flatL,List.nil_append,List.append_assoc] at h
  exact (end_head he hn.1 h.symm).elim
 | n :: r,m :: r',a,b,e,he,hn,hm,h => by
  simp only [shapedL,Bool.and_eq_true] at hn hm
  simp only [flatL,List.append_assoc] at h
  obtain ⟨rfl,h2⟩:=flat_inj n m _ _ hn.1 hm.1 h
  obtain ⟨rfl,rfl⟩:=flatL_inj r r' a b e he hn.2 hm.2 h2
  exact ⟨rfl,rfl⟩
end
theorem flat_same {n m : Nd} (hn : shaped n = true) (hm : shaped m = true) (h : flat n = flat m) : n = m :=
 (flat_inj n m [] [] hn hm (by rw [h])).1
end Go.Proofs.YtbnppjmmlfncmaaGreatDoor
