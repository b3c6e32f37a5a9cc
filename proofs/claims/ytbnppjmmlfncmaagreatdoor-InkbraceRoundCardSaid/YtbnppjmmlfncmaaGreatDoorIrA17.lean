/-
  What a tree is, node by node (pure): the kinds of what stands in a node, the keys of a map, the attributes of an element.
  The search for the first node that cannot be told (pure): the program's, by what it hands on to a node's kids, and the reference's, by the nodes above.
  carry: the search: where it stands, what it turns; refuse, kids.
-/
import Derived.Test.YtbnppjmmlfncmaaGreatDoorIrA01
import Derived.Test.YtbnppjmmlfncmaaGreatDoorIrA04
import Derived.Test.YtbnppjmmlfncmaaGreatDoorIrA07
import Derived.IntWalk
set_option maxRecDepth 100000
set_option linter.unusedSimpArgs false
set_option linter.unusedVariables false
namespace Go.Proofs.YtbnppjmmlfncmaaGreatDoor
def aft (n : Nd) (p : Pt) : Pt :=
 if n.k = 8 then (match n.kids with | m :: _ => { p with last:=m.k,keys:=n.t.data.toList :: p.keys } | [] => p)
 else if n.k = 11 then { p with last:=11,keys:=n.t.data.toList :: p.keys } else { p with last:=n.k }
theorem aft_val {n : Nd} (p : Pt) (h8 : n.k ≠ 8) (h11 : n.k ≠ 11) : aft n p = { p with last:=n.k }:=by unfold aft; rw [if_neg h8,if_neg h11]
theorem aft_attr {n : Nd} (p : Pt) (h11 : n.k = 11) : aft n p = { p with last:=11,keys:=n.t.data.toList :: p.keys }:=by unfold aft; rw [if_neg (by omega),if_pos h11]
theorem aft_key {n m : Nd} (p : Pt) (h8 : n.k = 8) (hm : n.kids = [m]) : aft n p = { p with last:=m.k,keys:=n.t.data.toList :: p.keys }:=by unfold aft; rw [if_pos h8,hm]
theorem aft_kind (n : Nd) (p : Pt) : (aft n p).kind = p.kind:=by
 unfold aft
 split
 ·split <;> rfl
 ·split <;> rfl
def aftL (l : List Nd) (p : Pt) : Pt:=l.foldl (fun p n => aft n p) p
theorem run_cons (st : List Pt) (x : Ev) (l : List Ev) : runS st (x :: l) = runS (stepS st x) l:=rfl
theorem gk_shape {k : Int} {kids : List Nd} (h : okShape k kids.length = true) (ho : opensK k = false) : (k = 8 /\ ∃ m,kids = [m]) \/ (k ≠ 8 /\ leafK k = true /\ kids = []):=by
 unfold okShape at h
 rw [ho] at h
 simp only [Bool.false_or,Bool.or_eq_true,Bool.and_eq_true,decide_eq_true_iff] at h
 rcases h with ⟨h1,h2⟩ | ⟨h1,h2⟩
 ·refine .inr ⟨?_,h1,List.eq_nil_of_length_eq_zero h2⟩
  unfold leafK at h1
  rw [decide_eq_true_iff] at h1
  omega
 ·exact .inl ⟨h1,List.length_eq_one_iff.1 h2⟩
theorem opens_k {k : Int} (h : opensK k = true) : k = 5 \/ k = 7 \/ k = 10:=of_decide_eq_true h
mutual
theorem run_flat : ∀ (n : Nd) (p : Pt) (r : List Pt),shaped n = true -> Good (p :: r) -> allOk (p :: r) (flat n) -> runS (p :: r) (flat n) = aft n p :: r
 | .mk k t v kids,p,r,hs,hg,ha => by
  simp only [shaped,Bool.and_eq_true] at hs
  simp only [flat,allOk] at ha
  have hb:=(allOk_append _ _ _).1 ha.2
  have hg1:=good_step hg ⟨k,t,v⟩
  have he:=shape_head hs.1
  have hst : stepS (p :: r) ⟨k,t,v⟩ = goS (p :: r) ⟨k,t,v⟩:=by unfold stepS; rw [if_pos ha.1]
  simp only [flat]
  rw [run_cons,runS_append]
  cases ho : opensK k with
  | true =>
   simp only [endL,ho,if_true] at hb ⊢
   have hgo : goS (p :: r) ⟨k,t,v⟩ = ⟨k,0,[]⟩ :: { p with last:=k } :: r:=by simp [goS,he,ho]
   rw [hst,hgo] at hb hg1 ⊢
   have hk:=runL_flat kids ⟨k,0,[]⟩ ({ p with last:=k } :: r) hs.2 hg1 hb.1
   rw [hk] at hb ⊢
   have h2 : stepE (aftL kids ⟨k,0,[]⟩ :: { p with last:=k } :: r) (endE (endK k)) = 0:=hb.2.1
   show stepS _ _ = _
   unfold stepS
   rw [if_pos h2]
   simp only [goS]
   rw [if_pos (by exact ends_endK k)]
   have hk8:=opens_k ho
   rw [aft_val (n:=.mk k t v kids) p (by show k ≠ 8; omega) (by show k ≠ 11; omega)]
   rfl
  | false =>
   simp only [endL,ho,if_false,Bool.false_eq_true] at hb ⊢
   show runS _ (flatL kids) = _
   rcases gk_shape hs.1 ho with ⟨h8,m,hm⟩ | ⟨h8,hl,hm⟩
   ·subst h8 hm
    have hgo : goS (p :: r) ⟨8,t,v⟩ = { p with last:=8,keys:=t.data.toList :: p.keys } :: r:=by simp [goS,he,ho]
    rw [hst,hgo] at hb hg1 ⊢
    simp only [shapedL,Bool.and_eq_true] at hs
    simp only [flatL,List.append_nil] at hb ⊢
    have hm1:=run_flat m _ r hs.2.1 hg1 hb.1
    rw [hm1]
    have hmv : m.k ≠ 8 /\ m.k ≠ 11:=by
     cases m with
     | mk k2 t2 v2 kids2 =>
      simp only [flat,allOk] at hb
      have hc:=(cont_of hb.1.1).2
      have hk0 : valueK k2 = true:=by
       have hc0:=(cont_of ha.1).2
       simp only [contB] at hc hc0
       by_cases h5 : p.kind = 5
       ·rw [if_pos h5] at hc0
        simp [valueK] at hc0
       rw [if_neg h5] at hc0 hc
       by_cases h7 : p.kind = 7
       ·rw [if_pos h7] at hc
        exact hc
       rw [if_neg h7] at hc0 hc
       by_cases h10 : p.kind = 10
       ·rw [if_pos h10] at hc0
        simp [contElem] at hc0
       rw [if_neg h10] at hc0
       simp [valueK] at hc0
      simp only [Nd.k]
      unfold valueK at hk0
      rw [decide_eq_true_iff] at hk0
      omega
    rw [aft_key (n:=.mk 8 t v [m]) p rfl rfl,aft_val _ hmv.1 hmv.2]
    rfl
   ·subst hm
    have hgo : goS (p :: r) ⟨k,t,v⟩ = aft (.mk k t v []) p :: r:=by
     simp only [goS]
     rw [if_neg (by rw [he]; decide),if_neg (by rw [ho]; decide)]
     by_cases h11 : k = 11
     ·rw [if_pos (.inr h11),aft_attr (n:=.mk k t v []) p h11,h11]
      rfl
     ·rw [if_neg (by omega),aft_val (n:=.mk k t v []) p h8 h11]
      rfl
    rw [hst,hgo]
    rfl
theorem runL_flat : ∀ (l : List Nd) (p : Pt) (r : List Pt),shapedL l = true -> Good (p :: r) -> allOk (p :: r) (flatL l) -> runS (p :: r) (flatL l) = aftL l p :: r
 | [],p,r,_,_,_ => rfl
 | n :: l,p,r,hs,hg,ha => by
  simp only [shapedL,Bool.and_eq_true] at hs
  simp only [flatL] at ha ⊢
  have hb:=(allOk_append _ _ _).1 ha
  have h1:=run_flat n p r hs.1 hg hb.1
  have hg2:=good_run hg (flat n)
  rw [runS_append,h1]
  rw [h1] at hb hg2
  exact runL_flat l (aft n p) r hs.2 hg2 hb.2
end
def gramH (k : Int) (t v : ByteArray) (kids : List Nd) : Prop :=
 formedB ⟨k,t,v⟩ = true /\ okShape k kids.length = true /\ (k = 5 \/ k = 8 -> ∀ m ∈ kids,valueK m.k = true) /\
 (k = 7 -> (∀ m ∈ kids,m.k = 8) /\ (kids.map fun m => m.t.data.toList).Nodup /\ kids.length <= 10) /\
 (k = 10 -> ∃ us cs,kids = us ++ cs /\ (∀ m ∈ us,m.k = 11) /\ (∀ m ∈ cs,m.k = 4 \/ m.k = 10) /\ us.length <= 10)
mutual
def gram : Nd -> Prop
 | .mk k t v kids => gramH k t v kids /\ gramL kids
def gramL : List Nd -> Prop
 | [] => True
 | n :: r => gram n /\ gramL r
end
theorem gramL_mem : ∀ {l : List Nd},gramL l ↔ ∀ n ∈ l,gram n
 | [] => by simp [gramL]
 | n :: r => by simp only [gramL,gramL_mem (l:=r),List.mem_cons,forall_eq_or_imp]
theorem gram.head {n : Nd} (h : gram n) : gramH n.k n.t n.v n.kids:=by cases n; exact h.1
theorem gram.kid {n m : Nd} (h : gram n) (hm : m ∈ n.kids) : gram m:=by cases n; exact gramL_mem.1 h.2 m hm
theorem head_ok {n : Nd} {p : Pt} {r : List Pt} (hs : shaped n = true) (h : allOk (p :: r) (flat n)) : stepE (p :: r) ⟨n.k,n.t,n.v⟩ = 0 /\ endsK n.k = false:=by
 cases n with
 | mk k t v kids =>
  simp only [flat,allOk] at h
  simp only [shaped,Bool.and_eq_true] at hs
  exact ⟨h.1,shape_head hs.1⟩
theorem listed : ∀ (l : List Nd) (p : Pt) (r : List Pt),p.kind = 5 -> shapedL l = true -> Good (p :: r) -> allOk (p :: r) (flatL l) -> ∀ m ∈ l,valueK m.k = true
 | [],_,_,_,_,_,_,_,hm => by cases hm
 | n :: l,p,r,hp,hs,hg,ha,m,hm => by
  simp only [shapedL,Bool.and_eq_true] at hs
  simp only [flatL] at ha
  have hb:=(allOk_append _ _ _).1 ha
  have h0:=head_ok hs.1 hb.1
  rcases List.mem_cons.1 hm with rfl | hm
  ·have hc:=(cont_of h0.1).2
   simp only [contB,hp,if_true,Bool.or_eq_true,decide_eq_true_iff] at hc
   rcases hc with hc | hc
   ·exact hc
   ·have:=h0.2
    rw [hc] at this
    exact absurd this (by decide)
  ·have h1:=run_flat n p r hs.1 hg hb.1
   have hg2:=good_run hg (flat n)
   rw [h1] at hb hg2
   exact listed l (aft n p) r ((aft_kind n p).trans hp) hs.2 hg2 hb.2 m hm
theorem step_keys {p : Pt} {r : List Pt} {x : Ev} (h : stepE (p :: r) x = 0) (hx : x.k = 8 \/ x.k = 11) : x.t.data.toList ∉ p.keys /\ p.keys.length < 10:=by
 have hc:=cont_of h
 simp only [stepE] at h
 rw [if_neg (by rw [hc.1,hc.2]; decide),if_neg (by unfold endsK; rw [decide_eq_true_iff]; omega),if_neg (by unfold opensK; rw [decide_eq_true_iff]; omega),if_pos hx] at h
 split at h
 ·exact absurd h (by decide)
 ·rename_i h1
  split at h
  ·exact absurd h (by decide)
  ·exact ⟨h1,by omega⟩
theorem mapped : ∀ (l : List Nd) (p : Pt) (r : List Pt),p.kind = 7 -> p.last ≠ 8 -> shapedL l = true -> Good (p :: r) -> allOk (p :: r) (flatL l) ->
 (∀ m ∈ l,m.k = 8) /\ (l.map fun m => m.t.data.toList).Nodup /\ (∀ m ∈ l,m.t.data.toList ∉ p.keys) /\ (p.keys.length <= 10 -> l.length + p.keys.length <= 10)
 | [],p,_,_,_,_,_,_ => by simp
 | n :: l,p,r,hp,hl8,hs,hg,ha => by
  simp only [shapedL,Bool.and_eq_true] at hs
  simp only [flatL] at ha
  have hb:=(allOk_append _ _ _).1 ha
  have h0:=head_ok hs.1 hb.1
  have hc:=(cont_of h0.1).2
  simp only [contB,hp] at hc
  rw [if_neg (by decide),if_pos trivial,if_neg hl8,decide_eq_true_iff] at hc
  have hk8 : n.k = 8:=by
   rcases hc with hc | hc
   ·exact hc
   ·have:=h0.2
    rw [hc] at this
    exact absurd this (by decide)
  have hk:=step_keys h0.1 (.inl hk8)
  have h1:=run_flat n p r hs.1 hg hb.1
  have hg2:=good_run hg (flat n)
  have haf : ∃ m,n.kids = [m]:=by
   cases n with
   | mk k t v kids =>
    simp only [Nd.k] at hk8
    subst hk8
    simp only [shaped,Bool.and_eq_true] at hs
    rcases gk_shape hs.1.1 rfl with ⟨_,h⟩ | ⟨h,_⟩
    ·exact h
    ·exact absurd rfl h
  obtain ⟨m,hm⟩:=haf
  have hmv : m.k ≠ 8:=by
   cases n with
   | mk k t v kids =>
    simp only [Nd.k] at hk8
    simp only [Nd.kids] at hm
    subst hk8 hm
    simp only [flat,allOk,flatL,List.append_nil] at hb
    have hb2:=((allOk_append _ _ _).1 hb.1.2).1
    have hst : stepS (p :: r) ⟨8,t,v⟩ = { p with last:=8,keys:=t.data.toList :: p.keys } :: r:=by
     unfold stepS; rw [if_pos hb.1.1]; simp [goS,opensK,endsK]
    rw [hst] at hb2
    simp only [shaped,shapedL,Bool.and_eq_true] at hs
    have h3:=head_ok hs.1.2.1 hb2
    have hc3:=(cont_of h3.1).2
    simp only [contB,hp] at hc3
    rw [if_neg (by decide),if_pos trivial,if_pos trivial] at hc3
    unfold valueK at hc3
    rw [decide_eq_true_iff] at hc3
    omega
  have hae : aft n p = { p with last:=m.k,keys:=n.t.data.toList :: p.keys }:=by
   exact aft_key _ hk8 hm
  rw [h1,hae] at hb hg2
  have ih:=mapped l _ r (by exact hp) (by exact hmv) hs.2 hg2 hb.2
  refine ⟨fun q hq => ?_,?_,fun q hq => ?_,fun hle => ?_⟩
  ·rcases List.mem_cons.1 hq with rfl | hq
   ·exact hk8
   ·exact ih.1 q hq
  ·rw [List.map_cons,List.nodup_cons]
   refine ⟨fun hx => ?_,ih.2.1⟩
   obtain ⟨q,hq,he⟩:=List.mem_map.1 hx
   exact ih.2.2.1 q hq (by rw [he]; exact List.mem_cons_self ..)
  ·rcases List.mem_cons.1 hq with rfl | hq
   ·exact hk.1
   ·exact fun hx => ih.2.2.1 q hq (List.mem_cons_of_mem _ hx)
  ·have:=ih.2.2.2 (by simp; omega)
   simp at this ⊢
   omega
theorem contents : ∀ (l : List Nd) (p : Pt) (r : List Pt),p.kind = 10 -> p.last ≠ 0 -> p.last ≠ 11 -> shapedL l = true -> Good (p :: r) -> allOk (p :: r) (flatL l) -> ∀ m ∈ l,m.k = 4 \/ m.k = 10
 | [],_,_,_,_,_,_,_,_,_,hm => by cases hm
 | n :: l,p,r,hp,hl0,hl11,hs,hg,ha,m,hm => by
  simp only [shapedL,Bool.and_eq_true] at hs
  simp only [flatL] at ha
  have hb:=(allOk_append _ _ _).1 ha
  have h0:=head_ok hs.1 hb.1
  have hc:=(cont_of h0.1).2
  have hn : n.k = 4 \/ n.k = 10:=by
   simp only [contB,hp] at hc
   rw [if_neg (by decide),if_neg (by decide),if_pos trivial] at hc
   unfold contElem at hc
   split at hc
   ·rw [decide_eq_true_iff] at hc; omega
   ·split at hc
    ·exact .inl ‹_›
    ·rw [decide_eq_true_iff] at hc
     rcases hc with hc | hc
     ·exact .inr hc
     ·have:=h0.2
      rw [hc] at this
      exact absurd this (by decide)
  rcases List.mem_cons.1 hm with rfl | hm
  ·exact hn
  ·have h1:=run_flat n p r hs.1 hg hb.1
   have hg2:=good_run hg (flat n)
   have hae : aft n p = { p with last:=n.k }:=by
    exact aft_val _ (by omega) (by omega)
   rw [h1,hae] at hb hg2
   exact contents l _ r (by exact hp) (by show n.k ≠ 0; omega) (by show n.k ≠ 11; omega) hs.2 hg2 hb.2 m hm
theorem parted : ∀ (l : List Nd) (p : Pt) (r : List Pt),p.kind = 10 -> (p.last = 0 \/ p.last = 11) -> p.keys.length <= 10 -> shapedL l = true -> Good (p :: r) -> allOk (p :: r) (flatL l) ->
 ∃ us cs,l = us ++ cs /\ (∀ m ∈ us,m.k = 11) /\ (∀ m ∈ cs,m.k = 4 \/ m.k = 10) /\ us.length + p.keys.length <= 10
 | [],p,_,_,_,hk,_,_,_ => ⟨[],[],rfl,by simp,by simp,by simpa using hk⟩
 | n :: l,p,r,hp,hl,hkl,hs,hg,ha => by
  have hs0:=hs
  have ha0:=ha
  simp only [shapedL,Bool.and_eq_true] at hs
  simp only [flatL] at ha
  have hb:=(allOk_append _ _ _).1 ha
  have h0:=head_ok hs.1 hb.1
  have h1:=run_flat n p r hs.1 hg hb.1
  have hg2:=good_run hg (flat n)
  by_cases h11 : n.k = 11
  ·have hk:=step_keys h0.1 (.inr h11)
   have hae : aft n p = { p with last:=11,keys:=n.t.data.toList :: p.keys }:=by
    exact aft_attr _ h11
   rw [h1,hae] at hb hg2
   obtain ⟨us,cs,rfl,i1,i2,i3⟩:=parted l _ r (by exact hp) (.inr rfl) (by simp; omega) hs.2 hg2 hb.2
   refine ⟨n :: us,cs,rfl,fun m hm => ?_,i2,by simp at i3 ⊢; omega⟩
   rcases List.mem_cons.1 hm with rfl | hm
   ·exact h11
   ·exact i1 m hm
  ·refine ⟨[],n :: l,rfl,by simp,?_,by simpa using hkl⟩
   have hc:=(cont_of h0.1).2
   have hn : n.k = 4 \/ n.k = 10:=by
    simp only [contB,hp] at hc
    rw [if_neg (by decide),if_neg (by decide),if_pos trivial] at hc
    unfold contElem at hc
    rw [if_neg h11] at hc
    split at hc
    ·exact .inl ‹_›
    ·rw [decide_eq_true_iff] at hc
     rcases hc with hc | hc
     ·exact .inr hc
     ·have:=h0.2
      rw [hc] at this
      exact absurd this (by decide)
   have hae : aft n p = { p with last:=n.k }:=by
    exact aft_val _ (by omega) (by omega)
   rw [h1,hae] at hb hg2
   intro m hm
   rcases List.mem_cons.1 hm with rfl | hm
   ·exact hn
   ·exact contents l _ r (by exact hp) (by show n.k ≠ 0; omega) (by show n.k ≠ 11; omega) hs.2 hg2 hb.2 m hm
mutual
theorem gram_of : ∀ (n : Nd) (p : Pt) (r : List Pt),shaped n = true -> Good (p :: r) -> allOk (p :: r) (flat n) -> gram n
 | .mk k t v kids,p,r,hs,hg,ha => by
  have hs0:=hs
  simp only [shaped,Bool.and_eq_true] at hs
  simp only [flat,allOk] at ha
  have hb:=((allOk_append _ _ _).1 ha.2).1
  have hg1:=good_step hg ⟨k,t,v⟩
  have he:=shape_head hs.1
  have hf:=(cont_of ha.1).1
  have hst : stepS (p :: r) ⟨k,t,v⟩ = goS (p :: r) ⟨k,t,v⟩:=by unfold stepS; rw [if_pos ha.1]
  rw [hst] at hb hg1
  cases ho : opensK k with
  | true =>
   have hgo : goS (p :: r) ⟨k,t,v⟩ = ⟨k,0,[]⟩ :: { p with last:=k } :: r:=by simp [goS,he,ho]
   rw [hgo] at hb hg1
   have hk:=opens_k ho
   refine ⟨⟨hf,hs.1,fun h => ?_,fun h => ?_,fun h => ?_⟩,gramL_of kids _ _ hs.2 hg1 hb⟩
   ·exact listed kids _ _ (show k = 5 by omega) hs.2 hg1 hb
   ·have:=mapped kids _ _ (show k = 7 from h) (show (0 : Int) ≠ 8 by decide) hs.2 hg1 hb
    exact ⟨this.1,this.2.1,by have:=this.2.2.2 (by simp); simpa using this⟩
   ·obtain ⟨us,cs,h1,h2,h3,h4⟩:=parted kids _ _ (show k = 10 from h) (.inl rfl) (by simp) hs.2 hg1 hb
    exact ⟨us,cs,h1,h2,h3,by simpa using h4⟩
  | false =>
   rcases gk_shape hs.1 ho with ⟨h8,m,hm⟩ | ⟨h8,hl,hm⟩
   ·subst h8 hm
    have hgo : goS (p :: r) ⟨8,t,v⟩ = { p with last:=8,keys:=t.data.toList :: p.keys } :: r:=by simp [goS,he,ho]
    rw [hgo] at hb hg1
    refine ⟨⟨hf,hs.1,fun _ => ?_,fun h => absurd h (by decide),fun h => absurd h (by decide)⟩,gramL_of [m] _ _ hs.2 hg1 hb⟩
    intro q hq
    rw [List.mem_singleton] at hq
    subst hq
    have hs2:=hs.2
    simp only [shapedL,Bool.and_eq_true] at hs2
    simp only [flatL,List.append_nil] at hb
    have hc:=(cont_of (head_ok hs2.1 hb).1).2
    have hc0:=(cont_of ha.1).2
    simp only [contB] at hc hc0
    by_cases h5 : p.kind = 5
    ·rw [if_pos h5] at hc0
     simp [valueK] at hc0
    rw [if_neg h5] at hc0 hc
    by_cases h7 : p.kind = 7
    ·rw [if_pos h7] at hc
     exact hc
    rw [if_neg h7] at hc0 hc
    by_cases h10 : p.kind = 10
    ·rw [if_pos h10] at hc0
     simp [contElem] at hc0
    rw [if_neg h10] at hc0
    simp [valueK] at hc0
   ·subst hm
    unfold opensK at ho
    rw [decide_eq_false_iff_not] at ho
    exact ⟨⟨hf,hs.1,by simp,fun h => absurd h (by omega),fun h => absurd h (by omega)⟩,trivial⟩
theorem gramL_of : ∀ (l : List Nd) (p : Pt) (r : List Pt),shapedL l = true -> Good (p :: r) -> allOk (p :: r) (flatL l) -> gramL l
 | [],_,_,_,_,_ => trivial
 | n :: l,p,r,hs,hg,ha => by
  simp only [shapedL,Bool.and_eq_true] at hs
  simp only [flatL] at ha
  have hb:=(allOk_append _ _ _).1 ha
  have h1:=run_flat n p r hs.1 hg hb.1
  have hg2:=good_run hg (flat n)
  rw [h1] at hb hg2
  exact ⟨gram_of n p r hs.1 hg hb.1,gramL_of l (aft n p) r hs.2 hg2 hb.2⟩
end
theorem may_gram {n : Nd} (h : mayN n = 0) : gram n:=by
 obtain ⟨hs,ha⟩:=may_shaped h
 exact gram_of n topP [] hs good_start ha
theorem may_value {n : Nd} (h : mayN n = 0) : valueK n.k = true:=by
 obtain ⟨hs,ha⟩:=may_shaped h
 have hc:=(cont_of (head_ok hs ha).1).2
 simp only [contB,topP] at hc
 rw [if_neg (by decide),if_neg (by decide),if_neg (by decide),Bool.and_eq_true] at hc
 exact hc.2
theorem gram.shape {n : Nd} (h : gram n) : okShape n.k n.kids.length = true:=h.head.2.1
theorem gram.leaf {n : Nd} (h : gram n) (hk : n.k ≠ 5 /\ n.k ≠ 7 /\ n.k ≠ 8 /\ n.k ≠ 10) : n.kids = []:=by
 have hs:=h.shape
 unfold okShape opensK at hs
 rw [decide_eq_false (by omega),decide_eq_false (p:=n.k = 8) (by omega)] at hs
 simp only [Bool.false_or,Bool.false_and,Bool.or_false,Bool.and_eq_true,decide_eq_true_iff] at hs
 exact List.eq_nil_of_length_eq_zero hs.2
theorem gram.key {n : Nd} (h : gram n) (hk : n.k = 8) : ∃ m,n.kids = [m] /\ valueK m.k = true /\ gram m:=by
 have hs:=h.shape
 rw [hk] at hs
 have h1 : n.kids.length = 1:=by simpa [okShape,opensK,leafK] using hs
 obtain ⟨m,hm⟩:=List.length_eq_one_iff.1 h1
 exact ⟨m,hm,h.head.2.2.1 (.inr hk) m (by rw [hm]; simp),h.kid (by rw [hm]; simp)⟩
section
variable {σ : Type} (bad : σ -> Nd -> Bool) (next : σ -> Nd -> Nat -> σ)
mutual
def srN : Nd -> σ -> Option (List Nat)
 | .mk k t v kids,s => if bad s (.mk k t v kids) = true then some [] else srL kids (next s (.mk k t v kids)) 0
def srL : List Nd -> (Nat -> σ) -> Nat -> Option (List Nat)
 | [],_,_ => none
 | m :: r,f,i => match srN m (f i) with
  | some q => some (i :: q)
  | none => srL r f (i + 1)
end
theorem srN_def (n : Nd) (s : σ) : srN bad next n s = if bad s n = true then some [] else srL bad next n.kids (next s n) 0:=by cases n; simp only [srN]; rfl
theorem srL_cons (m : Nd) (r : List Nd) (f : Nat -> σ) (i : Nat) : srL bad next (m :: r) f i = match srN bad next m (f i) with | some q => some (i :: q) | none => srL bad next r f (i + 1):=by simp only [srL]
theorem srL_nil (f : Nat -> σ) (i : Nat) : srL bad next [] f i = none:=by simp only [srL]
end
def spaceOf (t : ByteArray) : List UInt8:=match cutL t.data.toList with | some (s,_) => s | none => []
def bindL : List Nd -> List (List UInt8) -> List (List UInt8)
 | [],acc => acc
 | m :: r,acc => if m.k = 11 then bindL r (if spaceOf m.t = [] \/ spaceOf m.t ∈ acc then acc else acc ++ [spaceOf m.t]) else acc
def needs (o : List UInt8) (n : Nd) : Nat:=(bindL n.kids []).length + (if spaceOf n.t = o then 0 else 1)
def rawB (b : UInt8) : Bool:=!(decide (b < 32) && !decide (b = 9) && !decide (b = 10) && !decide (b = 13))
def rawL (l : List UInt8) : Bool:=l.all rawB
def xmlnsL : List UInt8:=[120,109,108,110,115]
def sameTexts : List Nd -> List Nd -> Bool
 | [],[] => true
 | a :: r,b :: s => decide (a.t = b.t) && sameTexts r s
 | _,_ => false
def rowB (n first : Nd) : Bool:=decide (n.k = 7) && (decide (0 < first.kids.length) && (decide (first.kids.length <= 8) && sameTexts n.kids first.kids))
def lineN (n : Nd) (a : Nat) : Int:=if 0 < n.kids.length then (a : Int) - 1 else (a : Int) + (rowN n).length
def rowsB (n : Nd) : Bool:=decide (n.k = 5) && (decide (0 < n.kids.length) && n.kids.all fun m => decide (m.k = 7))
def brk (n : Nd) : Nat:=if n.k = 7 then 2 else if rowsB n = true then 4 else 0
def deepF (f : Nd) : Bool:=decide (0 < brk (f.kids.getD 0 dNd))
def wordN (n : Nd) : Nat:=(wordL n.t.data.toList).length
inductive Sr where
 | free | brc | dl0 | dl1 (first : Nd) | dl2 | dl3 | ot (a ind : Nat) | ok_ (ind : Nat) | sc0 | sct (a : Nat) | scf (a : Nat) (deep : Bool) | scr (a : Nat) | scl | an0 | ane (o : List UInt8)
def badS : Sr -> Nd -> Bool
 | .free,_ => false
 | .brc,n => decide (n.k = 10)
 | .dl0,n => !decide (n.k = 5)
 | .dl1 first,n => !rowB n first
 | .dl2,_ => false
 | .dl3,n => !decide (n.k = 4)
 | .ot a _,n => decide (n.k = 10) || decide (160 < lineN n a)
 | .ok_ _,_ => false
 | .sc0,n => !decide (n.k = 7)
 | .sct _,_ => false
 | .scf a deep,n => if 0 < brk (n.kids.getD 0 dNd) then decide (160 < a + wordN n + brk (n.kids.getD 0 dNd)) else deep || (!elemN n && decide (160 < (rowN n).length))
 | .scr _,_ => false
 | .scl,n => decide (n.k = 10) || decide (n.k = 1)
 | .an0,n => !decide (n.k = 10) || decide (10 < needs [] n)
 | .ane o,n => if n.k = 11 then decide (n.t.data.toList = xmlnsL) || !rawL n.v.data.toList else if n.k = 4 then !rawL n.t.data.toList else decide (10 < needs o n)
def nextS : Sr -> Nd -> Nat -> Sr
 | .free,_,_ => .free
 | .brc,_,_ => .brc
 | .dl0,n,_ => .dl1 (n.kids.getD 0 dNd)
 | .dl1 _,_,_ => .dl2
 | .dl2,_,_ => .dl3
 | .dl3,_,_ => .dl3
 | .ot _ ind,n,j => if (n.kids.getD j dNd).k = 8 then .ok_ ind else .ot (ind + 2) (ind + 2)
 | .ok_ ind,n,_ => .ot (ind + wordN n + 2) (ind + 2)
 | .sc0,n,j => .scf 0 ((n.kids.take j).any deepF)
 | .sct a,n,j => .scf a ((n.kids.take j).any deepF)
 | .scf a _,n,_ => if 0 < brk (n.kids.getD 0 dNd) then .scr (a + wordN n + 1) else .scl
 | .scr a,n,j => if n.k = 7 then .scf a ((n.kids.take j).any deepF) else .sct a
 | .scl,_,_ => .scl
 | .an0,n,_ => .ane (spaceOf n.t)
 | .ane _,n,_ => .ane (spaceOf n.t)
def startS (x : Int) : Sr:=if x = 1 then .brc else if x = 2 then .an0 else if x = 3 then .ot 0 0 else if x = 4 then .sc0 else if x = 5 then .dl0 else .free
def ofP (x : Int) (n : Nd) : Option (List Nat):=srN badS nextS n (startS x)
open Go.RowKit Go.Maps
def pV (p : List Nat) : List Value:=p.map fun (i : Nat) => Value.int .i64 (i : Int)
def SI (s : Nat) (w : World) (path : List Nat) (g : Option Nat) : Prop:=∃ v : Value,Blk w s 90 #[v] /\ ORow w (s + 1) 3 v (pV path) /\ v.ownBlock = g
structure FrS (s : Nat) (g : Option Nat) (w w' : World) (g' : Option Nat) : Prop where
 os : w'.os = w.os
 tape : w'.tape = w.tape
 output : w'.output = w.output
 size : w.heap.size <= w'.heap.size
 block : ∀ k,k < w.heap.size -> k ≠ s -> some k ≠ g -> w'.heap[k]? = w.heap[k]?
 own : g' = g \/ ∀ q,g' = some q -> w.heap.size <= q
theorem FrS.trans {s : Nat} {g g1 g2 : Option Nat} {w w1 w2 : World} (h : FrS s g w w1 g1) (k : FrS s g1 w1 w2 g2) : FrS s g w w2 g2:=by
 refine ⟨k.os.trans h.os,k.tape.trans h.tape,k.output.trans h.output,Nat.le_trans h.size k.size,fun i hi hs hg => ?_,?_⟩
 ·refine (k.block i (Nat.lt_of_lt_of_le hi h.size) hs ?_).trans (h.block i hi hs hg)
  rcases h.own with e | e
  ·rw [e]; exact hg
  ·intro he
   have:=e i he.symm
   omega
 ·rcases k.own with e | e
  ·rw [e]; exact h.own
  ·exact .inr fun q hq => Nat.le_trans h.size (e q hq)
theorem FrS.refl (s : Nat) (g : Option Nat) (w : World) : FrS s g w w g:=⟨rfl,rfl,rfl,Nat.le_refl _,fun _ _ _ _ => rfl,.inl rfl⟩
theorem FrS.of_below {s : Nat} {g : Option Nat} {w w' : World} (h : Below w.heap.size w w') : FrS s g w w' g:=⟨h.os,h.tape,h.output,h.size,fun k hk _ _ => h.block k hk,.inl rfl⟩
theorem SI.below {s : Nat} {w w' : World} {path : List Nat} {g : Option Nat} (h : SI s w path g) (hb : Below w.heap.size w w') : SI s w' path g:=by
 obtain ⟨v,h1,h2,h3⟩:=h
 exact ⟨v,h1.below hb h1.lt,h2.below hb (fun q hq => (World.ownsRow.lt h2 q hq).2),h3⟩
theorem SI.lt {s : Nat} {w : World} {path : List Nat} {g : Option Nat} (h : SI s w path g) : s < w.heap.size:=h.choose_spec.1.lt
theorem SI.own {s : Nat} {w : World} {path : List Nat} {g : Option Nat} (h : SI s w path g) : ∀ q,g = some q -> s + 1 <= q /\ q < w.heap.size:=by
 obtain ⟨v,_,h2,h3⟩:=h
 intro q hq
 exact World.ownsRow.lt h2 q (h3.trans hq)
theorem FrS.low {s : Nat} {g g' : Option Nat} {w w' : World} {path : List Nat} (h : FrS s g w w' g') (hi : SI s w path g) : Below s w w' :=
 ⟨h.os,h.tape,h.output,h.size,fun k hk => h.block k (Nat.lt_trans hk hi.lt) (by omega) (fun e => by have:=(hi.own k e.symm).1; omega)⟩
def Bes (s : Nat) (g : Option Nat) (w : World) (k : Nat) (t : TypeId) (cs : Array Value) : Prop:=Blk w k t cs /\ k ≠ s /\ some k ≠ g
theorem Bes.new {s : Nat} {g : Option Nat} {w : World} {path : List Nat} (hi : SI s w path g) (t : TypeId) (cs : Array Value) : Bes s g (w.alloc (.cells cs t)) w.heap.size t cs :=
 ⟨Blk.new w t cs,by have:=hi.lt; omega,fun e => by have:=(hi.own _ e.symm).2; omega⟩
theorem Bes.below {s : Nat} {g : Option Nat} {w w' : World} {k : Nat} {t : TypeId} {cs : Array Value} (h : Bes s g w k t cs) (hb : Below w.heap.size w w') : Bes s g w' k t cs:=⟨h.1.below hb h.1.lt,h.2⟩
def foundV (v : Value) : Value:=.iface 89 (.agg #[v])
def foundP (v : Value) : List PanicEntry:=[{ v:=foundV v,recovered:=false }]
def VPost (s : Nat) (path : List Nat) (g : Option Nat) (w : World) (r : Option (List Nat)) (e : Ending) (w' : World) : Prop :=
 (r = none /\ e = .returned (.tuple #[]) /\ ∃ g',SI s w' path g' /\ FrS s g w w' g') \/
 (∃ q v,r = some q /\ e = .panicked (foundP v) /\ ORow w' (s + 1) 3 v (pV (path ++ q)) /\ Below s w w')
theorem VPost.pre {s : Nat} {path : List Nat} {g g1 : Option Nat} {w w1 : World} {r : Option (List Nat)} {e : Ending} {w' : World} (hi : SI s w path g) (f : FrS s g w w1 g1) (h : VPost s path g1 w1 r e w') : VPost s path g w r e w':=by
 rcases h with ⟨h1,h2,g',h3,h4⟩ | ⟨q,v,h1,h2,h3,h4⟩
 ·exact .inl ⟨h1,h2,g',h3,f.trans h4⟩
 ·exact .inr ⟨q,v,h1,h2,h3,(f.low hi).trans h4⟩
theorem refuse_no (s : Nat) (w : World) :
 Calls Tryz.prog 83 #[.pointer (some ⟨s,0,none⟩),.bool false] w fun e w' => e = .returned (.tuple #[]) /\ w' = w:=by
 go_enter Tryz.func83,Tryz.ntmps83
 go_wp2
 go_end0
 exact ⟨rfl,rfl⟩
theorem refuse_yes (s : Nat) (path : List Nat) (g : Option Nat) (w : World) (hi : SI s w path g) :
 Calls Tryz.prog 83 #[.pointer (some ⟨s,0,none⟩),.bool true] w fun e w' => ∃ v,e = .panicked (foundP v) /\ ORow w' (s + 1) 3 v (pV path) /\ Below w.heap.size w w':=by
 obtain ⟨v,h1,h2,h3⟩:=hi
 obtain ⟨A,cap,rfl⟩:=h2.shape
 have c0 : w.cell? ⟨s,0,none⟩ = some (.slice A (pV path).length cap):=h1.cell 0
 unfold foundP foundV
 go_enter Tryz.func83,Tryz.ntmps83
 go_wp2
 exact ⟨rfl,_,rfl,h2,Below.refl _ _⟩
theorem pV_snoc (p : List Nat) (j : Nat) : pV (p ++ [j]) = pV p ++ [.int .i64 (j : Int)]:=by simp [pV]
theorem pV_len (p : List Nat) : (pV p).length = p.length:=by simp [pV]
theorem ORow.shapeP {w : World} {base : Nat} {e : TypeId} {v : Value} {xs : List Value} {n : Nat} (h : ORow w base e v xs) (hn : xs.length = n) : ∃ A c,v = .slice A n c:=by subst hn; exact h.shape
theorem ORow.cut {w : World} {base : Nat} {e : TypeId} {g n c : Nat} {xs : List Value} {u : Value} (h : ORow w base e (.slice (some ⟨g,0,none⟩) n c) (xs ++ [u])) : ORow w base e (.slice (some ⟨g,0,none⟩) xs.length c) xs:=by
 have hl:=h.1
 rcases h.2 with ⟨hv,_⟩ | ⟨g',cap',cur,hv,hg,hh,hnc,hm,hs,ht⟩
 ·cases hv
 ·injection hv with h1 h2 h3
  injection h1 with h1
  injection h1 with h1
  subst h1 h3
  refine ⟨by simp,.inr ⟨g,c,cur,rfl,hg,hh,?_,hm,hs,?_⟩⟩
  ·simp at hnc; omega
  ·have:=congrArg (List.take xs.length) ht
   rw [List.take_take] at this
   simp only [List.length_append,List.length_cons,List.length_nil,Nat.mul_one] at this ⊢
   rw [Nat.min_eq_left (by omega)] at this
   rw [this]
   simp
set_option maxHeartbeats 4000000 in
theorem kids_any (s : Nat) (path : List Nat) (gr : Option Nat) (k : Int) (t v : ByteArray) (l : List Nd) (A : Option Addr) (c : Nat) (w : World) (hi : SI s w path gr) (hA : NAt (fun b _ => b < s) w (.mk k t v l) A c) (hlen : path.length <= 100000) (hll : l.length <= 1000000)
 (g : FuncId) (first cap : Array Value) (hef : ∀ args w,(callFunc g args).run Tryz.prog w = .ok (.enter g args) w) (R : Nat -> Nd -> Option (List Nat)) (rest : Nat -> Option (List Nat))
 (hrest : ∀ j (h : j < l.length),rest j = match R j (l.getD j dNd) with | some q => some (j :: q) | none => rest (j + 1)) (hend : rest l.length = none)
 (hv : ∀ j (h : j < l.length) w1 g1 B cB,SI s w1 (path ++ [j]) g1 -> FrS s gr w w1 g1 -> NAt (fun b _ => b < s) w1 (l.getD j dNd) B cB ->
  Calls Tryz.prog g (first.push (.agg #[.int .i64 (l.getD j dNd).k,.string (l.getD j dNd).t,.string (l.getD j dNd).v,.slice B (l.getD j dNd).kids.length cB]) ++ cap) w1 (VPost s (path ++ [j]) g1 w1 (R j (l.getD j dNd)))) :
 Calls Tryz.prog 84 #[.pointer (some ⟨s,0,none⟩),.agg #[.int .i64 k,.string t,.string v,.slice A l.length c],.func (.func g) first cap] w (VPost s path gr w (rest 0)):=by
 obtain ⟨hlc,hcm,_⟩:=(NAt.def_ _ _ _).1 hA
 simp only [Nd.kids] at hlc
 have hcm2 : c <= 9223372036854775807:=by simpa [maxLen] using hcm
 have bX:=Bes.new hi 24 #[.int .i64 k,.string t,.string v,.slice A l.length c]
 have alk:=al_nd w #[.int .i64 k,.string t,.string v,.slice A l.length c]
 obtain ⟨W0,hW0⟩ : ∃ W0,w.alloc (.cells #[.int .i64 k,.string t,.string v,.slice A l.length c] 24) = W0:=⟨_,rfl⟩
 rw [hW0] at bX alk
 have HI:=Lib.hid (hi.below alk)
 have HF : Hid (FrS s gr w W0 gr):=Lib.hid (FrS.of_below alk)
 have HA:=Lib.hid hA
 have HV:=Lib.hid hv
 have HR:=Lib.hid hrest
 have HE:=Lib.hid hend
 have HI0:=Lib.hid hi
 have x3 : W0.cell? ⟨w.heap.size,3,none⟩ = some (.slice A l.length c):=bX.1.cell 3
 have HFIN : Hid (∀ r,r = rest 0 -> r = rest 0):=Lib.hid fun r h => h
 obtain ⟨RR,hRR⟩ : ∃ RR,rest 0 = RR:=⟨_,rfl⟩
 rw [hRR]
 have HRR:=Lib.hid hRR
 clear hi hA hv hrest hend bX alk hRR HFIN
 go_enter Tryz.func84,Tryz.ntmps84
 go_wp2
 clear hW0 x3
 go_loopw [11] (fun i wr => ∃ (j : Nat) (g1 : Option Nat),j <= l.length /\ i = .int .i64 (j : Int) /\ Hid (SI s wr path g1) /\ Hid (FrS s gr w wr g1) /\ Hid (rest j = RR)) (fun i _ => l.length - (intOf i).toNat)
 case atStart => exact ⟨0,gr,Nat.zero_le _,rfl,HI,HF,HRR⟩
 case round =>
  obtain ⟨j,g1,hj,rfl,HI1,HF1,HRJ⟩:=hrel
  have hlow:=HF1.out.low HI0.out
  by_cases hlt : j < l.length
  case pos =>
   have hA':=HA.out.low (w':=wr) (fun q hq => hlow.block q hq)
   obtain ⟨_,_,hkids⟩:=(NAt.def_ _ _ _).1 hA'
   simp only [Nd.kids] at hkids
   obtain ⟨b,o,rfl,hbo,hkid⟩:=hkids (by omega)
   have hk1:=hkid j hlt
   rw [<- getDn hlt] at hk1
   obtain ⟨B,cB,q0,q1,q2,q3,hn1⟩:=hk1
   have hjc : j < c:=by omega
   have HVJ:=Lib.hid (HV.out j hlt)
   have HRN:=Lib.hid ((HR.out j hlt).symm.trans HRJ.out)
   clear hkid hkids hA' HV HR HRJ HE HI HF
   generalize l.getD j dNd = kd at *
   have bK:=Bes.new HI1.out 24 #[.int .i64 kd.k,.string kd.t,.string kd.v,.slice B kd.kids.length cB]
   have al1:=al_nd wr #[.int .i64 kd.k,.string kd.t,.string kd.v,.slice B kd.kids.length cB]
   obtain ⟨W1,hW1⟩ : ∃ W1,wr.alloc (.cells #[.int .i64 kd.k,.string kd.t,.string kd.v,.slice B kd.kids.length cB] 24) = W1:=⟨_,rfl⟩
   rw [hW1] at bK al1
   obtain ⟨v1,hb1,ho1,hg1⟩:=HI1.out.below al1
   have c0 : W1.cell? ⟨s,0,none⟩ = some v1:=hb1.cell 0
   have hso : some s ≠ v1.ownBlock:=ho1.not_own (Nat.lt_succ_self s)
   have hsb : s + 1 <= W1.heap.size:=hb1.lt
   have hF1 : FrS s gr w W1 g1:=HF1.out.trans (FrS.of_below al1)
   have HNW:=Lib.hid (hn1.below al1)
   obtain ⟨bk,hbk⟩ : ∃ bk,wr.heap.size = bk:=⟨_,rfl⟩
   rw [hbk] at bK
   clear al1 hn1
   go_wp2_with (first
    | (at_builtin; refine wp_app1 rfl _ _ 27 rfl (s + 1) 3 (.int .i64 0) 8 Tryz.underlying27 Tryz.info3 rfl v1 (pV path) (.int .i64 (j : Int)) rfl ho1 rfl 1 rfl (by rw [pV_len]; unfold maxLen; omega) (by rw [pV_len]; omega) hsb ?_; intro v2 w2 ho2 hgr2 how2; obtain ⟨A2,c2,rfl⟩:=ho2.shapeP (n:=path.length + 1) (by simp [pV]); have hb2:=hb1.grown hgr2 hso; have d0 : w2.cell? ⟨s,0,none⟩ = some v1:=hb2.cell 0; have f0:=hb2.frozen 0; have hlt2:=hb2.lt; have bK2:=bK.1.grown hgr2 (by rw [hg1]; exact bK.2.2); have bK3:=bK2.far (p:=⟨s,0,none⟩) bK.2.1 (.slice A2 (path.length + 1) c2); obtain ⟨z0,z1,z2,z3⟩:=nbox bK3))
   have hI3 : SI s (w2.setCell ⟨s,0,none⟩ (.slice A2 (path.length + 1) c2)) (path ++ [j]) (Value.slice A2 (path.length + 1) c2).ownBlock:=⟨_,hb2.set_ 0 _,by rw [pV_snoc]; exact ORow.set_farQ ho2 (Nat.lt_succ_self s) _,rfl⟩
   have hF3 : FrS s g1 W1 (w2.setCell ⟨s,0,none⟩ (.slice A2 (path.length + 1) c2)) (Value.slice A2 (path.length + 1) c2).ownBlock:=by
    refine ⟨hgr2.os,hgr2.tape,hgr2.output,by simpa [World.setCell] using hgr2.size,fun i hi hs hg => (Below.heap_setCell w2 ⟨s,0,none⟩ _ i hs).trans (hgr2.block i hi (by rw [hg1]; exact hg)),?_⟩
    rcases how2 with h | h
    ·exact .inl (h.trans hg1)
    ·exact .inr fun q hq => by rw [h] at hq; injection hq with hq; omega
   have hFF:=hF1.trans hF3
   have hl3:=hFF.low HI0.out
   have hC:=HVJ.out _ _ B cB hI3 hFF (HNW.out.low (fun q hq => (hF3.low ⟨v1,hb1,ho1,hg1⟩).block q hq))
   refine hC.mono ?_
   have HFF:=Lib.hid hFF
   have HL3:=Lib.hid hl3
   clear hC hI3 hF3 hFF hl3 z0 z1 z2 z3 bK bK2 bK3 d0 f0 hlt2 hb2 hgr2 how2 ho2 c0 hb1 ho1 hg1 hso hsb hF1 HNW HVJ q0 q1 q2 q3 hlow HI1 HF1 hW1
   rintro e w5 (⟨hr,rfl,g5,hI5,hF5⟩ | ⟨q,v5,hr,rfl,ho5,hb5⟩)
   case inr =>
    rw [hr] at HRN
    exact ⟨rfl,.inr ⟨j :: q,v5,HRN.out.symm,rfl,by simpa [List.append_assoc] using ho5,HL3.out.trans hb5⟩⟩
   case inl =>
    rw [hr] at HRN
    have HRN2 : Hid (rest (j + 1) = RR):=Lib.hid HRN.out
    have HF5:=Lib.hid (HFF.out.trans hF5)
    clear HRN HFF HL3 hF5
    obtain ⟨v5,hb5,ho5,hg5⟩:=hI5
    rw [pV_snoc] at ho5
    obtain ⟨A5,c5,rfl⟩:=ho5.shapeP (n:=path.length + 1) (by simp [pV])
    obtain ⟨q5,hq5,hle5⟩ : ∃ q5,A5 = some ⟨q5,0,none⟩ /\ path.length + 1 <= c5:=by
     rcases ho5.form with ⟨hv,hx⟩ | ⟨q5,cap,hv,_,_,hle,_⟩
     ·simp at hx
     ·injection hv with h1 h2 h3
      subst h3
      refine ⟨q5,h1,?_⟩
      simpa [pV] using hle
    subst hq5
    have e0 : w5.cell? ⟨s,0,none⟩ = some (.slice (some ⟨q5,0,none⟩) (path.length + 1) c5):=hb5.cell 0
    have fe:=hb5.frozen 0
    have hlt5:=hb5.lt
    have hcut:=ho5.cut
    rw [pV_len] at hcut
    have hI6 : SI s (w5.setCell ⟨s,0,none⟩ (.slice (some ⟨q5,0,none⟩) path.length c5)) path g5:=⟨_,hb5.set_ 0 _,ORow.set_farQ hcut (Nat.lt_succ_self s) _,hg5⟩
    have hF6 : FrS s g5 w5 (w5.setCell ⟨s,0,none⟩ (.slice (some ⟨q5,0,none⟩) path.length c5)) g5:=⟨rfl,rfl,rfl,by simp [World.setCell],fun i _ hs _ => Below.heap_setCell w5 ⟨s,0,none⟩ _ i hs,.inl rfl⟩
    have HI6:=Lib.hid hI6
    have HF6:=Lib.hid (HF5.out.trans hF6)
    clear hI6 hF6 hcut hb5 ho5 hg5
    go_wp2
    go_region
    go_wp2
    go_roundw
    case rel => exact ⟨j + 1,g5,by omega,by go_num,Lib.hid (HI6.out.below (below_drew (Below.refl _ _))),Lib.hid (HF6.out.trans (FrS.of_below (below_drew (Below.refl _ _)))),HRN2⟩
    case measure => first | (simp [intOf]; done) | (simp [intOf]; omega)
  case neg =>
   obtain rfl : j = l.length:=by omega
   have HN : Hid (RR = none):=Lib.hid (HRJ.out.symm.trans HE.out)
   clear HRJ HE HI HF HV HR
   go_wp2
   go_end0
   exact .inl ⟨HN.out,rfl,g1,HI1.out,HF1.out⟩
end Go.Proofs.YtbnppjmmlfncmaaGreatDoor
