/-
  What is printed of a tree is made of whole characters; a Stream that reads it (pure).
  Events that wait, behind some that were taken: a row that is cut at its left end; an event appended to it.
  The brace syntax: what lies while a text is read; Tell.
-/
import Derived.Test.YtbnppjmmlfncmaaGreatDoorIrA34
import Derived.Test.YtbnppjmmlfncmaaGreatDoorIrA15
import Derived.Deep.AppendSrc
import Derived.Test.YtbnppjmmlfncmaaGreatDoorIrA33
import Derived.Test.YtbnppjmmlfncmaaGreatDoorIrA06
import Derived.Test.YtbnppjmmlfncmaaGreatDoorIrA19
import Derived.StillTailTactics
set_option maxRecDepth 100000
set_option linter.unusedSimpArgs false
set_option linter.unusedVariables false
set_option linter.unusedSectionVars false
namespace Go.Proofs.YtbnppjmmlfncmaaGreatDoor.Br
variable [Fo]
structure Sc where
 l : Int
 lo : Int
 hi : Int
def sc0 : Sc:=⟨0,128,191⟩
def scG : Sc -> List UInt8 -> Option Sc
 | s,[] => some s
 | s,b :: r => if stOk s.l s.lo s.hi (b.toNat : Int) = true then scG ⟨stL s.l (b.toNat : Int),stLo s.l (b.toNat : Int),stHi s.l (b.toNat : Int)⟩ r else none
theorem scG_append : ∀ (a b : List UInt8) (s t : Sc),scG s a = some t -> scG s (a ++ b) = scG t b
 | [],b,s,t,h => by simp only [scG] at h; injection h with h; subst h; rfl
 | x :: a,b,s,t,h => by
  simp only [scG,List.cons_append] at h ⊢
  split at h
  ·rw [if_pos ‹_›]; exact scG_append a b _ t h
  ·cases h
def ScI (s : Sc) : Prop:=(s.l = 0 /\ s.lo = 128 /\ s.hi = 191) \/ (1 <= s.l /\ 128 <= s.lo /\ (s.l = 1 -> True))
theorem sci_step {s : Sc} {b : Int} (h : ScI s) (hb : 0 <= b) (hok : stOk s.l s.lo s.hi b = true) : ScI ⟨stL s.l b,stLo s.l b,stHi s.l b⟩:=by
 obtain ⟨l,lo,hi⟩:=s
 unfold ScI at h ⊢
 simp only at h hok ⊢
 rcases h with ⟨rfl,rfl,rfl⟩ | ⟨h1,h2,_⟩
 ·unfold stOk at hok
  rw [if_neg (by decide)] at hok
  have hok2:=of_decide_eq_true hok
  unfold stL stLo stHi
  simp only [show ¬ (0 : Int) < 0 by decide,if_false]
  by_cases h128 : b < 128
  ·rw [if_pos h128,if_neg (by omega),if_neg (by omega),if_neg (by omega),if_neg (by omega)]
   exact .inl ⟨rfl,rfl,rfl⟩
  ·rw [if_neg h128]
   refine .inr ⟨?_,?_,fun _ => trivial⟩
   iterate 2
    ·split
     ·omega
     ·split <;> omega
 ·unfold stL stLo stHi
  rw [if_pos (by omega),if_pos (by omega),if_pos (by omega)]
  by_cases h1' : l = 1
  ·exact .inl ⟨by omega,rfl,rfl⟩
  ·exact .inr ⟨by omega,by omega,fun _ => trivial⟩
theorem sci_run : ∀ (a : List UInt8) (s t : Sc),ScI s -> scG s a = some t -> ScI t
 | [],s,t,h,h2 => by simp only [scG] at h2; injection h2 with h2; subst h2; exact h
 | b :: a,s,t,h,h2 => by
  simp only [scG] at h2
  split at h2
  ·rename_i hok
   exact sci_run a _ t (sci_step h (by omega) hok) h2
  ·cases h2
theorem sc_ascii {b : UInt8} (h : (b.toNat : Int) < 128) (r : List UInt8) : scG sc0 (b :: r) = scG sc0 r:=by
 have hok : stOk sc0.l sc0.lo sc0.hi (b.toNat : Int) = true:=by
  unfold stOk sc0
  rw [if_neg (by decide)]
  exact decide_eq_true (.inl h)
 simp only [scG]
 rw [if_pos hok]
 congr 1
 unfold stL stLo stHi sc0
 simp only [show ¬ (0 : Int) < 0 by decide,if_false]
 rw [if_pos h,if_neg (by omega),if_neg (by omega),if_neg (by omega),if_neg (by omega)]
def ScOk (l : List UInt8) : Prop:=scG sc0 l = some sc0
theorem ScOk.nil : ScOk []:=rfl
theorem ScOk.app {a b : List UInt8} (h : ScOk a) (k : ScOk b) : ScOk (a ++ b):=by unfold ScOk; rw [scG_append a b sc0 sc0 h]; exact k
theorem ScOk.cons {b : UInt8} {r : List UInt8} (hb : (b.toNat : Int) < 128) (h : ScOk r) : ScOk (b :: r):=by unfold ScOk; rw [sc_ascii hb]; exact h
theorem ScOk.ascii : ∀ {l : List UInt8},(∀ b ∈ l,(b.toNat : Int) < 128) -> ScOk l
 | [],_ => ScOk.nil
 | b :: r,h => ScOk.cons (h b (by simp)) (ScOk.ascii fun x hx => h x (by simp [hx]))
theorem sc_runes : ∀ (L : List UInt8) (s : Rn),(runesGo s L).isSome = true -> ∃ t,scG ⟨s.l,s.lo,s.hi⟩ L = some t /\ t.l = 0
 | [],s,h => by
  simp only [runesGo] at h
  split at h
  ·exact ⟨_,rfl,by assumption⟩
  ·cases h
 | b :: L,s,h => by
  simp only [runesGo] at h
  cases hs : rnStep s (b.toNat : Int) with
  | none => rw [hs] at h; cases h
  | some s' =>
   rw [hs] at h
   obtain ⟨t,h1,h2⟩:=sc_runes L s' h
   refine ⟨t,?_,h2⟩
   unfold rnStep at hs
   by_cases hok : stOk s.l s.lo s.hi (b.toNat : Int) = true
   ·rw [if_pos hok] at hs
    have e : s'.l = stL s.l (b.toNat : Int) /\ s'.lo = stLo s.l (b.toNat : Int) /\ s'.hi = stHi s.l (b.toNat : Int):=by
     split at hs <;> (injection hs with hs; subst hs; exact ⟨rfl,rfl,rfl⟩)
    simp only [scG]
    rw [if_pos hok,<- e.1,<- e.2.1,<- e.2.2]
    exact h1
   ·rw [if_neg hok] at hs
    cases hs
theorem pr_hex {n : Int} (h0 : 0 <= n) (h1 : n < 16) : ((b8 (Qt.hexD n)).toNat : Int) < 128:=by
 have h:=Qt.hexD_rg n h0 h1
 rw [b8_nat _ h.1 h.2]
 unfold Qt.hexD
 split <;> omega
theorem pr_ascii {b : UInt8} (h : (b.toNat : Int) < 128) : ∀ x ∈ Qt.prB b,(x.toNat : Int) < 128:=by
 intro x hx
 unfold Qt.prB at hx
 split at hx
 ·simp only [List.mem_cons,List.not_mem_nil,or_false] at hx
  rcases hx with rfl | rfl
  ·decide
  ·exact h
 split at hx
 ·simp only [List.mem_cons,List.not_mem_nil,or_false] at hx
  rcases hx with rfl | rfl <;> decide
 split at hx
 ·simp only [List.mem_cons,List.not_mem_nil,or_false] at hx
  rcases hx with rfl | rfl <;> decide
 split at hx
 ·simp only [List.mem_cons,List.not_mem_nil,or_false] at hx
  rcases hx with rfl | rfl <;> decide
 split at hx
 ·simp only [List.mem_cons,List.not_mem_nil,or_false] at hx
  rcases hx with rfl | rfl | rfl | rfl | rfl | rfl
  ·decide
  ·decide
  ·decide
  ·decide
  iterate 2
   ·exact pr_hex (by omega) (by omega)
 ·simp only [List.mem_cons,List.not_mem_nil,or_false] at hx
  subst hx
  exact h
theorem pr_high {b : UInt8} (h : ¬ (b.toNat : Int) < 128) : Qt.prB b = [b]:=by
 unfold Qt.prB
 rw [if_neg (by omega),if_neg (by omega),if_neg (by omega),if_neg (by omega),if_neg (by omega)]
theorem sc_prAll : ∀ (L : List UInt8) (s t : Sc),ScI s -> scG s L = some t -> scG s (Qt.prAll L) = some t
 | [],s,t,_,h => h
 | b :: L,s,t,hi,h => by
  have hp : Qt.prAll (b :: L) = Qt.prB b ++ Qt.prAll L:=by simp [Qt.prAll]
  rw [hp]
  simp only [scG] at h
  split at h
  ·rename_i hok
   have hi2:=sci_step hi (by omega) hok
   have ih:=sc_prAll L _ t hi2 h
   by_cases hb : (b.toNat : Int) < 128
   ·-- at the beginning of a character
    have h0 : s = sc0:=by
     rcases hi with ⟨h1,h2,h3⟩ | ⟨h1,h2,_⟩
     ·obtain ⟨l,lo,hi⟩:=s
      simp only at h1 h2 h3
      subst h1 h2 h3
      rfl
     ·unfold stOk at hok
      rw [if_pos (by omega)] at hok
      have:=of_decide_eq_true hok
      omega
    subst h0
    have e : scG sc0 (Qt.prB b) = some sc0:=ScOk.ascii (pr_ascii hb)
    rw [scG_append _ _ _ _ e]
    have e2 : (⟨stL sc0.l (b.toNat : Int),stLo sc0.l (b.toNat : Int),stHi sc0.l (b.toNat : Int)⟩ : Sc) = sc0:=by
     have:=sc_ascii hb []
     simp only [scG] at this
     rw [if_pos hok] at this
     injection this
    rw [e2] at ih
    exact ih
   ·rw [pr_high hb]
    simp only [List.cons_append,List.nil_append,scG]
    rw [if_pos hok]
    exact ih
  ·cases h
theorem sc_text {L : List UInt8} (hv : validL L = true) : ScOk (Qt.prText L):=by
 simp only [validL,Bool.and_eq_true,decide_eq_true_iff] at hv
 have hp : Qt.prText L = 34 :: (Qt.prAll L ++ [34]):=by
  unfold Qt.prText
  rw [if_pos hv.2,if_neg (by omega)]
  rfl
 rw [hp]
 obtain ⟨t,h1,h2⟩:=sc_runes L (rn0 []) hv.2
 have hi0 : ScI sc0:=.inl ⟨rfl,rfl,rfl⟩
 have h1' : scG sc0 L = some t:=h1
 have ht : t = sc0:=by
  rcases sci_run L _ t hi0 h1' with ⟨h3,h4,h5⟩ | ⟨h3,_⟩
  ·obtain ⟨l,lo,hi⟩:=t
   simp only at h3 h4 h5
   subst h3 h4 h5
   rfl
  ·omega
 subst ht
 exact ScOk.cons (by decide) (ScOk.app (sc_prAll L _ _ hi0 h1') (ScOk.cons (by decide) ScOk.nil))
theorem sc_num : ∀ (L : List UInt8) (a : Int),Nm.mst a L ≠ 0 -> ∀ b ∈ L,(b.toNat : Int) < 128
 | [],_,_,b,hb => by cases hb
 | c :: L,a,h,b,hb => by
  simp only [Nm.mst] at h
  rcases List.mem_cons.1 hb with rfl | hb
  ·have hs : Nm.stepI a (b.toNat : Int) ≠ 0:=fun e => h (by rw [e]; exact Nm.mst_0 L)
   unfold Nm.stepI at hs
   by_cases h1 : (b.toNat : Int) = 48
   ·omega
   rw [if_neg h1] at hs
   by_cases h2 : 49 <= (b.toNat : Int) /\ (b.toNat : Int) <= 57
   ·omega
   rw [if_neg h2] at hs
   by_cases h3 : (b.toNat : Int) = 45
   ·omega
   rw [if_neg h3] at hs
   by_cases h4 : (b.toNat : Int) = 43
   ·omega
   rw [if_neg h4] at hs
   by_cases h5 : (b.toNat : Int) = 46
   ·omega
   rw [if_neg h5] at hs
   by_cases h6 : (b.toNat : Int) = 101 \/ (b.toNat : Int) = 69
   ·omega
   rw [if_neg h6] at hs
   exact absurd rfl hs
  ·exact sc_num L _ h b hb
theorem sc_seq : ∀ (l : List Nd) (b : Bool),(∀ n ∈ l,ScOk (inkN n)) -> ScOk (inkL b l)
 | [],b,_ => by simp only [inkL]; exact ScOk.nil
 | n :: r,b,h => by
  simp only [inkL]
  refine ScOk.app ?_ (ScOk.app (h n (by simp)) (sc_seq r false fun m hm => h m (by simp [hm])))
  cases b
  ·exact ScOk.cons (by decide) ScOk.nil
  ·exact ScOk.nil
theorem sc_ink (n : Nd) : gram n -> srN badS nextS n .brc = none -> n.k ≠ 11 -> ScOk (inkN n):=by
 induction n using Nd.ind with
 | h k t v l ih =>
  intro hg hb h11
  have hf:=hg.head.1
  simp only [Nd.k,Nd.t,Nd.v,Nd.kids] at hf h11
  have h10 : k ≠ 10:=fun e => by
   rw [srN_def,if_pos (by simp [badS,Nd.k,e])] at hb
   cases hb
  have hkid : ∀ m ∈ l,m.k ≠ 11 -> ScOk (inkN m):=fun m hm h => ih m hm (hg.kid hm) (brc_kids hb hm) h
  unfold formedB at hf
  by_cases h1 : k = 1
  ·subst h1
   rw [inkN_1]
   exact ScOk.ascii (by decide)
  by_cases h4 : k = 4
  ·subst h4
   rw [inkN_4]
   exact sc_text (show emptyT v = true /\ validL t.data.toList = true by simpa [bareK] using hf).2
  by_cases h5 : k = 5
  ·subst h5
   rw [inkN_5]
   refine ScOk.cons (by decide) (ScOk.app (sc_seq l true fun m hm => hkid m hm ?_) (ScOk.cons (by decide) ScOk.nil))
   have:=hg.head.2.2.1 (.inl rfl) m hm
   intro e
   rw [e] at this
   exact absurd this (by decide)
  by_cases h7 : k = 7
  ·subst h7
   rw [inkN_7]
   refine ScOk.cons (by decide) (ScOk.app (sc_seq l true fun m hm => hkid m hm ?_) (ScOk.cons (by decide) ScOk.nil))
   have:=(hg.head.2.2.2.1 rfl).1 m hm
   omega
  by_cases h8 : k = 8
  ·subst h8
   rw [inkN_8]
   refine ScOk.app (sc_text (show emptyT v = true /\ validL t.data.toList = true by simpa [bareK] using hf).2) (ScOk.app (ScOk.cons (by decide) ScOk.nil) (sc_seq l true fun m hm => hkid m hm ?_))
   have:=hg.head.2.2.1 (.inr rfl) m hm
   intro e
   rw [e] at this
   exact absurd this (by decide)
  rw [inkN_e t v l h1 h4 h5 h7 h8]
  by_cases h2 : k = 2
  ·subst h2
   have h3:=(show emptyT v = true /\ boolL t.data.toList = true by simpa [bareK] using hf).2
   simp only [boolL,Bool.or_eq_true,decide_eq_true_iff] at h3
   rcases h3 with h3 | h3 <;> (rw [h3]; exact ScOk.ascii (by decide))
  by_cases h3 : k = 3
  ·subst h3
   have h9:=(show emptyT v = true /\ normL t.data.toList = true by simpa [bareK] using hf).2
   have:=(norm_facts h9).1
   unfold Nm.begB at this
   exact ScOk.ascii (sc_num _ _ (of_decide_eq_true this))
  by_cases hbk : bareK k = true
  ·rw [if_pos hbk] at hf
   simp only [Bool.and_eq_true] at hf
   rw [show t.data.toList = [] from of_decide_eq_true hf.1]
   exact ScOk.nil
  ·rw [if_neg hbk,if_neg h2,if_neg h3,if_neg (by simp only; omega),if_neg h10,if_neg h11] at hf
   cases hf
def mrun (M : MachP) : M.σ -> List UInt8 -> Option M.σ
 | s,[] => some s
 | s,b :: r => if M.ste s b = 0 then mrun M (M.stp s b) r else none
theorem feed_run {M : MachP} : ∀ (bs : List UInt8) (x : Ss M) (t : Sc) (y : M.σ),x.e = 0 -> scG ⟨x.sl,x.slo,x.shi⟩ bs = some t -> mrun M x.b bs = some y -> feedG x bs = ⟨y,t.l,t.lo,t.hi,0,x.rd + bs.length⟩
 | [],x,t,y,he,hs,hr => by
  simp only [scG,mrun] at hs hr
  injection hs with hs
  injection hr with hr
  subst hs hr
  obtain ⟨b,sl,slo,shi,e,rd⟩:=x
  simp only at he
  subst he
  rfl
 | b :: bs,x,t,y,he,hs,hr => by
  simp only [scG,mrun] at hs hr
  split at hs
  ·rename_i hok
   split at hr
   ·rename_i h0
    rw [feedG_cons]
    have e1 : feed1 x b = ⟨M.stp x.b b,stL x.sl (b.toNat : Int),stLo x.sl (b.toNat : Int),stHi x.sl (b.toNat : Int),0,x.rd + 1⟩:=by
     unfold feed1
     rw [if_neg (by rw [he]; decide),if_pos hok,h0,if_pos rfl]
    rw [e1]
    have:=feed_run bs ⟨M.stp x.b b,stL x.sl (b.toNat : Int),stLo x.sl (b.toNat : Int),stHi x.sl (b.toNat : Int),0,x.rd + 1⟩ t y rfl hs hr
    rw [this]
    simp only [List.length_cons]
    rw [show x.rd + 1 + bs.length = x.rd + (bs.length + 1) by omega]
   ·cases hr
  ·cases hs
end Go.Proofs.YtbnppjmmlfncmaaGreatDoor.Br
namespace Go.Proofs.YtbnppjmmlfncmaaGreatDoor
open Go.RowKit Go.Maps
variable [Fo]
def WE (w : World) (base : Nat) (v : Value) (l : List Ev) : Prop :=
 (v = .slice none 0 0 /\ l = []) \/
 ∃ g d cap cur,v = .slice (some ⟨g,d * 3,none⟩) l.length cap /\ base <= g /\ w.heap[g]? = some (.cells cur 67 (0,0)) /\ l.length <= cap /\ cap <= maxLen /\ (d + cap) * 3 <= cur.size /\ ∀ j,j < l.length * 3 -> cur[d * 3 + j]? = (evcs l)[j]?
section
variable {w w' : World} {base : Nat} {v : Value} {l : List Ev}
theorem WE.of_erow (h : ERow w base v l) : WE w base v l:=by
 unfold ERow at h
 rcases h.2 with ⟨rfl,h0⟩ | ⟨g,cap,cur,rfl,hg,hh,hnc,hm,hs,ht⟩
 ·exact .inl ⟨rfl,List.eq_nil_of_length_eq_zero h0⟩
 ·refine .inr ⟨g,0,cap,cur,by rw [Nat.zero_mul],hg,hh,hnc,hm,by omega,fun j hj => ?_⟩
  rw [Nat.zero_mul,Nat.zero_add,<- ht,List.getElem?_take_of_lt hj,Array.getElem?_toList]
theorem WE.obj (h : WE w base v l) {g : Nat} (hg : v.ownBlock = some g) : base <= g /\ g < w.heap.size /\ ∃ cur,w.heap[g]? = some (.cells cur 67 (0,0)):=by
 rcases h with ⟨rfl,_⟩ | ⟨g',d,cap,cur,rfl,hb,hh,_⟩
 ·cases hg
 ·cases hg
  exact ⟨hb,(Array.getElem?_eq_some_iff.1 hh).1,cur,hh⟩
theorem WE.frame (h : WE w base v l) (hk : ∀ g o,v.ownBlock = some g -> w.heap[g]? = some o -> w'.heap[g]? = some o) : WE w' base v l:=by
 rcases h with h | ⟨g,d,cap,cur,h1,h2,h3,r⟩
 ·exact .inl h
 ·exact .inr ⟨g,d,cap,cur,h1,h2,hk g _ (by rw [h1]; rfl) h3,r⟩
theorem WE.below (h : WE w base v l) (hb : Below w.heap.size w w') : WE w' base v l:=h.frame fun g o _ ho => (hb.block g (Array.getElem?_eq_some_iff.1 ho).1).trans ho
theorem WE.alloc (h : WE w base v l) (o : Obj) : WE (w.alloc o) base v l:=h.below ((Below.refl _ _).alloc (Nat.le_refl _) _)
theorem WE.shape (h : WE w base v l) : ∃ A c,v = .slice A l.length c:=by
 rcases h with ⟨rfl,rfl⟩ | ⟨g,d,cap,cur,rfl,_⟩
 ·exact ⟨_,_,rfl⟩
 ·exact ⟨_,_,rfl⟩
theorem WE.low {b : Nat} (h : WE w base v l) (hb : b <= base) : WE w b v l:=by
 rcases h with h | ⟨g,d,cap,cur,h1,h2,r⟩
 ·exact .inl h
 ·exact .inr ⟨g,d,cap,cur,h1,Nat.le_trans hb h2,r⟩
theorem WE.read (h : WE w base v l) : ERead w v l:=by
 rcases h with ⟨rfl,rfl⟩ | ⟨g,d,cap,cur,rfl,hg,hh,hnc,hm,hs,hj⟩
 ·exact ⟨none,0,rfl,Nat.le_refl _,Nat.zero_le _,fun hp => absurd hp (by simp)⟩
 ·refine ⟨some ⟨g,d * 3,none⟩,cap,rfl,hnc,hm,fun _ => ⟨g,d * 3,rfl,fun j hjl => ?_⟩⟩
  have hG : Blk w g 67 cur:=hh
  have hat : ∀ i,i < 3 -> w.cell? ⟨g,d * 3 + j * 3 + i,none⟩ = (evc l[j])[i]?:=by
   intro i hi
   rw [hG.cell,<- evcs_get l j hjl i hi,<- hj (j * 3 + i) (by omega),Nat.add_assoc]
  have h0:=hat 0 (by omega)
  have h1:=hat 1 (by omega)
  have h2:=hat 2 (by omega)
  exact ⟨h0,h1,h2⟩
end
section
variable [Fo] {w : World}
theorem set3_get (cur : Array Value) (k : Nat) (a b c : Value) (hk : k + 3 <= cur.size) (j : Nat) :
 (((cur.setIfInBounds k a).setIfInBounds (k + 1) b).setIfInBounds (k + 1 + 1) c)[j]? = if j < k then cur[j]? else if j < k + 3 then [a,b,c][j - k]? else cur[j]?:=by
 simp only [Array.getElem?_setIfInBounds,Array.size_setIfInBounds]
 by_cases h1 : j < k
 ·rw [if_neg (by omega),if_neg (by omega),if_neg (by omega),if_pos h1]
 ·rw [if_neg h1]
  by_cases h2 : j < k + 3
  ·rw [if_pos h2]
   have : j = k \/ j = k + 1 \/ j = k + 1 + 1:=by omega
   rcases this with rfl | rfl | rfl
   ·rw [if_neg (by omega),if_neg (by omega),if_pos rfl,if_pos (by omega)]; simp
   ·rw [if_neg (by omega),if_pos rfl,if_pos (by omega)]; simp
   ·rw [if_pos rfl,if_pos (by omega)]; simp [Nat.add_assoc]
  ·rw [if_neg h2,if_neg (by omega),if_neg (by omega),if_neg (by omega)]
theorem run_append_we (base : Nat) (v : Value) (l : List Ev) (h : WE w base v l) (x : Ev) (A : Addr) (ty : TypeId) (hc : ∀ j u,[Value.int .i64 x.k,.string x.t,.string x.v][j]? = some u -> w.cell? (A.add j) = some u)
 (hl : l.length <= 1000000) (hbase : base <= w.heap.size) :
 ∃ v' w',(Builtin.append_ #[36,36] ty #[v,.slice (some A) 1 1]).run Tryz.prog w = .ok v' w' /\ WE w' base v' (l ++ [x]) /\ w.grownBy w' v.ownBlock /\ NB w v v':=by
 obtain ⟨i,hi,hz,hsize,hby⟩:=info_parts Tryz.infoEv
 have h1 : ∀ u ∈ [Value.int .i64 x.k,.string x.t,.string x.v],u.oneCell' = true:=by simp [Value.oneCell']
 have hsrc : Src Tryz.prog i.size 36 (.slice (some A) 1 1) 1 [.int .i64 x.k,.string x.t,.string x.v] w:=Src.ofSlice w Tryz.underlying36 A 1 1 _ (by rw [hsize]; rfl) hc h1
 have nilcase : v = .slice none 0 0 -> l = [] -> ∃ v' w',(Builtin.append_ #[36,36] ty #[v,.slice (some A) 1 1]).run Tryz.prog w = .ok v' w' /\ WE w' base v' (l ++ [x]) /\ w.grownBy w' v.ownBlock /\ NB w v v':=by
  rintro rfl rfl
  obtain ⟨v',w',hr,h2,h3,_,h5⟩:=run_append_own_at (P:=Tryz.prog) w base 36 ty 67 i _ 3 40 Tryz.underlying36 hi hz hsize hby rfl (by decide) (.slice none 0 0) 0 [] (World.ownsRow_nil w base _ 3) A 1 1 _ rfl hc h1 (by simp [maxLen]) (by decide) hbase
  refine ⟨v',w',hr,WE.of_erow ?_,h3,h5.imp id fun e => ⟨_,e,Nat.le_refl _⟩⟩
  exact h2
 rcases h with ⟨hv,h0⟩ | ⟨g,d,cap,cur,rfl,hg,hh,hnc,hm,hs,hj⟩
 ·exact nilcase hv h0
 ·have hG : Blk w g 67 cur:=hh
  by_cases hroom : l.length + 1 <= cap
  ·have hfit : d * 3 + l.length * 3 + 3 <= cur.size:=by omega
   have hr:=run_append_room_src (P:=Tryz.prog) w 36 36 ty 67 i Tryz.underlying36 hi g (d * 3) l.length cap (.slice (some A) 1 1) 1 _ hsrc hroom
    (fun j hjl => by rw [hsize,hG.cell]; simp at hjl ⊢; omega) (fun j _ => by rw [hsize]; exact hG.frozen _)
   rw [hsize] at hr
   have hG3:=((hG.set_ (d * 3 + l.length * 3) (.int .i64 x.k)).set_ (d * 3 + l.length * 3 + 1) (.string x.t)).set_ (d * 3 + l.length * 3 + 1 + 1) (.string x.v)
   refine ⟨_,_,hr,.inr ⟨g,d,cap,_,by rw [List.length_append]; rfl,hg,hG3,by simpa using hroom,hm,by simpa using hs,fun j hjl => ?_⟩,?_,.inl rfl⟩
   ·rw [set3_get _ _ _ _ _ (by omega),evcs_snoc]
    rw [List.length_append,List.length_singleton] at hjl
    by_cases h5 : j < l.length * 3
    ·rw [if_pos (by omega),hj j h5,List.getElem?_append_left (by rw [evcs_len]; exact h5)]
    ·rw [if_neg (by omega),if_pos (by omega),List.getElem?_append_right (by rw [evcs_len]; omega),evcs_len]
     rw [show d * 3 + j - (d * 3 + l.length * 3) = j - l.length * 3 by omega]
     rfl
   ·exact only_setCell (only_setCell (only_setCell (World.grownBy.refl w (some g)) (.inl rfl) _) (.inl rfl) _) (.inl rfl) _
  ·have holds : ∀ j u,(evcs l)[j]? = some u -> w.cell? ((⟨g,d * 3,none⟩ : Addr).add j) = some u:=by
    intro j u hu
    have hjl : j < l.length * 3:=by have:=(List.getElem?_eq_some_iff.1 hu).1; rwa [evcs_len] at this
    rw [show (⟨g,d * 3,none⟩ : Addr).add j = ⟨g,d * 3 + j,none⟩ by unfold Addr.add; split <;> simp_all,hG.cell,hj j hjl,hu]
   have hr:=run_append_grow (P:=Tryz.prog) w 36 ty 67 i _ Tryz.underlying36 hi hz ⟨g,d * 3,none⟩ l.length cap (evcs l) (by rw [hsize,evcs_len]) holds A 1 1 _ (by rw [hsize]; rfl) hc (by omega) (by omega) (growslice_fits (by omega) (by rw [hby]; omega))
   have hge:=grownCap_ge w (l.length + 1) cap 67
   have hcm:=grownCap_le_maxLen w (l.length + 1) cap 67 (by simp only [maxLen]; omega)
   refine ⟨_,_,hr,WE.of_erow ?_,⟨rfl,rfl,rfl,by simp,fun k hk _ => heap_alloc_old w.drew _ hk⟩,.inr ⟨_,rfl,Nat.le_refl _⟩⟩
   unfold ERow
   rw [List.length_append,List.length_singleton,evcs_snoc]
   refine ⟨by rw [List.length_append,evcs_len]; simp [evc]; omega,.inr ⟨w.heap.size,_,_,rfl,hbase,heap_alloc_new w.drew _,hge,hcm,?_,?_⟩⟩
   ·simp only [Array.size_append,List.size_toArray,size_zeroCells,evcs_len,List.length_cons,List.length_nil]
    rw [show (Value.agg #[.int .i64 0,.string ⟨#[]⟩,.string ⟨#[]⟩]).cells.size = 3 from rfl]
    omega
   ·simp only [Array.toList_append,List.append_assoc]
    rw [<- List.append_assoc]
    exact List.take_left' (by rw [List.length_append,evcs_len]; simp; omega)
end
end Go.Proofs.YtbnppjmmlfncmaaGreatDoor
namespace Go.Proofs.YtbnppjmmlfncmaaGreatDoor
open Go.RowKit Go.Maps
variable [Fo]
def RowT (w : World) (base : Nat) (v : Value) (l : List Ev) : Prop:=(Fo.tk = none /\ ERow w base v l) \/ ∃ n,Fo.tk = some n /\ n <= l.length /\ WE w base v (l.drop n)
section
variable {w w' : World} {base : Nat} {v : Value} {l : List Ev}
theorem RowT.obj (h : RowT w base v l) {g : Nat} (hg : v.ownBlock = some g) : base <= g /\ g < w.heap.size /\ ∃ cur,w.heap[g]? = some (.cells cur 67 (0,0)):=by
 rcases h with ⟨_,h⟩ | ⟨_,_,_,h⟩
 ·exact (WE.of_erow h).obj hg
 ·exact h.obj hg
theorem RowT.frame (h : RowT w base v l) (hk : ∀ g o,v.ownBlock = some g -> w.heap[g]? = some o -> w'.heap[g]? = some o) : RowT w' base v l:=by
 rcases h with ⟨h0,h⟩ | ⟨n,h0,h1,h⟩
 ·refine .inl ⟨h0,h.1,?_⟩
  rcases h.2 with hn | ⟨g,cap,cur,hv,hg,hh,r⟩
  ·exact .inl hn
  ·exact .inr ⟨g,cap,cur,hv,hg,hk g _ (by rw [hv]; rfl) hh,r⟩
 ·exact .inr ⟨n,h0,h1,h.frame hk⟩
theorem RowT.below (h : RowT w base v l) (hb : Below w.heap.size w w') : RowT w' base v l:=h.frame fun g o _ ho => (hb.block g (Array.getElem?_eq_some_iff.1 ho).1).trans ho
theorem RowT.alloc (h : RowT w base v l) (o : Obj) : RowT (w.alloc o) base v l:=h.below ((Below.refl _ _).alloc (Nat.le_refl _) _)
theorem RowT.tch {b : Nat} {p : Obj -> Prop} (h : RowT w base v l) (ht : Tch b p w w') (hp : ∀ cur fr,¬ p (.cells cur 67 fr)) : RowT w' base v l :=
 h.frame fun g o hg ho => by
  obtain ⟨_,_,cur,hc⟩:=h.obj hg
  rw [ho] at hc
  injection hc with hc
  subst hc
  exact ht.block _ _ ho (.inr (.inl (hp _ _)))
theorem RowT.of_c (h : RowT w base v l) (ht : Tch base cObj w w') : RowT w' base v l:=h.tch ht (fun _ _ => by simp only [cObj]; decide)
theorem RowT.shape (h : RowT w base v l) : ∃ A n c,v = .slice A n c /\ n <= l.length:=by
 rcases h with ⟨_,h⟩ | ⟨_,_,_,h⟩
 ·obtain ⟨A,c,e⟩:=h.shape
  exact ⟨A,_,c,e,Nat.le_refl _⟩
 ·obtain ⟨A,c,e⟩:=h.shape
  exact ⟨A,_,c,e,by simp⟩
theorem RowT.lt (h : RowT w base v l) {g : Nat} (hg : v.ownBlock = some g) : base <= g /\ g < w.heap.size:=⟨(h.obj hg).1,(h.obj hg).2.1⟩
theorem RowT.low {b : Nat} (h : RowT w base v l) (hb : b <= base) : RowT w b v l:=by
 rcases h with ⟨h0,h⟩ | ⟨n,h0,h1,h⟩
 ·refine .inl ⟨h0,h.1,?_⟩
  rcases h.2 with hn | ⟨g,cap,cur,hv,hg,r⟩
  ·exact .inl hn
  ·exact .inr ⟨g,cap,cur,hv,Nat.le_trans hb hg,r⟩
 ·exact .inr ⟨n,h0,h1,h.low hb⟩
theorem RowT.nil (h0 : Fo.tk = none) (w : World) (base : Nat) : RowT w base (.slice none 0 0) []:=.inl ⟨h0,ERow.nil w base⟩
theorem run_append_t (h : RowT w base v l) (x : Ev) (A : Addr) (ty : TypeId) (hc : ∀ j u,[Value.int .i64 x.k,.string x.t,.string x.v][j]? = some u -> w.cell? (A.add j) = some u)
 (hl : l.length <= 1000000) (hbase : base <= w.heap.size) :
 ∃ v' w',(Builtin.append_ #[36,36] ty #[v,.slice (some A) 1 1]).run Tryz.prog w = .ok v' w' /\ RowT w' base v' (l ++ [x]) /\ w.grownBy w' v.ownBlock /\ NB w v v':=by
 rcases h with ⟨h0,h⟩ | ⟨n,h0,h1,h⟩
 ·obtain ⟨i,hi,hz,hsize,hby⟩:=info_parts Tryz.infoEv
  obtain ⟨v',w',hr,h2,h3,_,h5⟩:=run_append_own_at (P:=Tryz.prog) w base 36 ty 67 i _ 3 40 Tryz.underlying36 hi hz hsize hby rfl (by decide) v l.length (evcs l) h A 1 1 _ rfl hc (by simp [Value.oneCell']) (by simp only [maxLen]; omega) (by omega) hbase
  refine ⟨v',w',hr,.inl ⟨h0,?_⟩,h3,h5.imp id fun e => ⟨_,e,Nat.le_refl _⟩⟩
  unfold ERow
  rw [evcs_snoc,List.length_append]
  exact h2
 ·obtain ⟨v',w',hr,h2,h3,h5⟩:=run_append_we base v (l.drop n) h x A ty hc (by simp; omega) hbase
  refine ⟨v',w',hr,.inr ⟨n,h0,by simp; omega,?_⟩,h3,h5⟩
  rw [List.drop_append_of_le_length h1]
  exact h2
theorem step_appT {ops : Array Oper} {o : Oper} {a : Act} {K : Act -> World -> Prop} {Q : Exit -> Act -> World -> Prop} {E : Prop} (hgd : o.guard = none) (s x : Operand)
 (ho : o.op = .call { callee:=.builtin .append,args:=#[s,x],argTypes:=#[36,36] })
 (base : Nat) (v : Value) (l : List Ev) (y : Ev) (hs : a.eval s = v) (hown : RowT w base v l) (A : Addr) (hx : a.eval x = .slice (some A) 1 1)
 (hc : ∀ j u,[Value.int .i64 y.k,.string y.t,.string y.v][j]? = some u -> w.cell? (A.add j) = some u) (hl : l.length <= 1000000) (hbase : base <= w.heap.size)
 (h : ∀ v' w',RowT w' base v' (l ++ [y]) -> w.grownBy w' v.ownBlock -> NB w v v' -> K (a.put o.dst v') w') :
 if Region.wanted o (yielded ops a.tmps) = true then Oper.wp Tryz.prog o a w K Q else E:=by
 have hw : Region.wanted o (yielded ops a.tmps) = true:=by simp [Region.wanted,hgd]
 rw [if_pos hw]
 obtain ⟨v',w',hrun,h2,h3,h5⟩:=run_append_t hown y A o.type hc hl hbase
 unfold Oper.wp execOp
 simp only [ho,resolve,invoke,builtin,Sem.run_bind,Sem.run_pure,Result.andThen_ok,List.map_toArray,List.map_cons,List.map_nil,hs,hx,hrun]
 exact h v' w' h2 h3 h5
theorem rowT_push {v' : Value} {o : Obj} (h : RowT w base v l) (hf : NF v) (hg : (w.alloc o).grownBy w' v.ownBlock) : Tch base eObj w w':=by
 refine ((Tch.refl base eObj w).alloc o).trans ?_
 cases hv : v.ownBlock with
 | none => rw [hv] at hg; exact Tch.of_grown_none hg
 | some g =>
  obtain ⟨h1,_,cur,hh⟩:=(h.alloc o).obj hv
  rw [hv] at hg
  exact Tch.of_grown hg h1 (hf g hv) hh rfl
end
structure OAt (w : World) (base o ck : Nat) (st : List Pt) (l : List Ev) : Prop where
 out : ∃ lv,Blk w o 107 #[.pointer (some ⟨ck,0,none⟩),lv,.int .i64 0] /\ RowT w base lv l /\ NF lv
 chk : CAt w base ck st
 bo : base <= o
 nf : ¬ Fo.F o
def tObj : Obj -> Prop
 | .cells _ t _ => t = 127 \/ t = 124 \/ t = 107 \/ t = 67
 | .map _ _ => True
 | _ => False
def oOnly : Obj -> Prop
 | .cells _ t _ => t = 107
 | _ => False
def TellPost (w : World) (base o ck : Nat) (st : List Pt) (l : List Ev) (x : Ev) (e : Ending) (w' : World) : Prop :=
 e = .returned (.int .i64 (stepE st x)) /\ OAt w' base o ck (stepS st x) (tellL st l x) /\ Tch base tObj w w'
theorem c_of_t {o : Obj} (h : cObj o) : tObj o:=by
 cases o <;> simp only [cObj,tObj] at h ⊢
 ·rcases h with h | h <;> simp [h]
theorem e_of_t {o : Obj} (h : eObj o) : tObj o:=by
 cases o <;> simp only [eObj,tObj] at h ⊢
 ·simp [h]
theorem Tch.wide {base : Nat} {p q : Obj -> Prop} {w w' : World} (h : Tch base p w w') (hpq : ∀ o,p o -> q o) : Tch base q w w' :=
 ⟨h.os,h.tape,h.output,h.size,fun k o ho hc => h.block k o ho (hc.imp id (Or.imp (fun hn hp => hn (hpq o hp)) id))⟩
set_option maxHeartbeats 4000000 in
theorem tell_any (w : World) (base o ck : Nat) (st : List Pt) (l : List Ev) (x : Ev) (h : OAt w base o ck st l) (hg : Good st) (hw : NumW x.k w) (hs : x.t.size <= 140737488355328) (hl : l.length <= 1000000) (hb : base <= w.heap.size) :
 Calls Tryz.prog 263 #[.pointer (some ⟨o,0,none⟩),.agg #[.int .i64 x.k,.string x.t,.string x.v],.slice none 0 0] w (TellPost w base o ck st l x):=by
 obtain ⟨⟨lv,hB,hR,hnf⟩,hC,hbo,hfo⟩:=h
 have hB1:=hB.alloc (.cells #[.int .i64 x.k,.string x.t,.string x.v] 67)
 have hX1:=Blk.new w 67 #[.int .i64 x.k,.string x.t,.string x.v]
 have hR1:=hR.alloc (.cells #[.int .i64 x.k,.string x.t,.string x.v] 67)
 have al : Below w.heap.size w (w.alloc (.cells #[.int .i64 x.k,.string x.t,.string x.v] 67)):=(Below.refl _ _).alloc (Nat.le_refl _) _
 have hC1:=hC.below al
 have hw1:=hw.below al
 obtain ⟨W0,hW0⟩ : ∃ W0,w.alloc (.cells #[.int .i64 x.k,.string x.t,.string x.v] 67) = W0:=⟨_,rfl⟩
 have hs0 : W0.heap.size = w.heap.size + 1:=by rw [<- hW0]; simp
 rw [hW0] at hB1 hX1 hR1 hC1 hw1 al
 have b0 : W0.cell? ⟨o,0,none⟩ = some (.pointer (some ⟨ck,0,none⟩)):=hB1.cell 0
 have x0 : W0.cell? ⟨w.heap.size,0,none⟩ = some (.int .i64 x.k):=hX1.cell 0
 have x1 : W0.cell? ⟨w.heap.size,1,none⟩ = some (.string x.t):=hX1.cell 1
 have x2 : W0.cell? ⟨w.heap.size,2,none⟩ = some (.string x.v):=hX1.cell 2
 have hS:=estep_any W0.drew base ck st x (hC1.below (below_drew (Below.refl _ _))) hg (hw1.drewN 1) hs
 unfold SPost evV at hS
 have HO:=Lib.hid (fun g hg => (RowT.lt hR (g:=g) hg).2)
 have HB:=Lib.hid hB1
 have HX:=Lib.hid hX1
 have HR:=Lib.hid hR1
 have HAL:=Lib.hid al
 have hbz : base <= W0.heap.size:=by omega
 clear hB hR hC hB1 hX1 hR1 hC1 al
 by_cases hz : stepE st x = 0
 case neg =>
  have hsn : stepS st x = st:=by unfold stepS; rw [if_neg hz]
  have e1 : (stepE st x == 0) = false:=by rw [beq_eq_false_iff_ne]; exact hz
  have e2 : (stepE st x != 0) = true:=by simp [bne,e1]
  unfold TellPost tellL
  rw [if_neg hz,hsn]
  rw [hsn] at hS
  generalize stepE st x = E at *
  clear hz hsn
  go_enter Tryz.func263,Tryz.ntmps263
  go_wp2
  go_still_tail 5,(by kernel_rfl)
  change wpList _ _ _ _ _ W0.drew
  generalize hwd : W0.drew = wd at *
  have HD:=Lib.hid (show Below W0.heap.size W0 wd by rw [<- hwd]; exact below_drew (Below.refl _ _))
  clear hwd b0 x0 x1 x2
  go_wp2_with (first
   | (go_at_call 45; refine hS.mono ?_; rintro e w3 ⟨rfl,hC3,hT3⟩))
  go_ret
  have ht : Tch base cObj w w3:=(Tch.of_below HAL.out).trans ((Tch.of_below HD.out).trans hT3)
  refine ⟨rfl,⟨⟨lv,?_,?_,hnf⟩,hC3,hbo,hfo⟩,ht.wide fun _ => c_of_t⟩
  ·exact ((HB.out.below HD.out HB.out.lt).tch hT3 (.inr (by simp only [cObj]; decide)))
  ·exact (HR.out.below HD.out).of_c hT3
 case pos =>
  unfold TellPost tellL
  rw [if_pos hz]
  rw [hz] at hS ⊢
  generalize stepS st x = st2 at *
  clear hz
  obtain ⟨A,nR,c,rfl,hnR⟩:=HR.out.shape
  go_enter Tryz.func263,Tryz.ntmps263
  go_wp2
  go_still_tail 5,(by kernel_rfl)
  change wpList _ _ _ _ _ W0.drew
  generalize hwd : W0.drew = wd at *
  have HD:=Lib.hid (show Below W0.heap.size W0 wd by rw [<- hwd]; exact below_drew (Below.refl _ _))
  have hzd : W0.heap.size <= wd.heap.size:=HD.out.size
  clear hwd b0 x0 x1 x2
  go_wp2_with (first
   | (go_at_call 45; refine hS.mono ?_; rintro e w3 ⟨rfl,hC3,hT3⟩))
  have HB3:=Lib.hid ((HB.out.below HD.out HB.out.lt).tch hT3 (.inr (by simp only [cObj]; decide)))
  have HX3:=Lib.hid ((HX.out.below HD.out HX.out.lt).tch hT3 (.inr (by simp only [cObj]; decide)))
  have HR3:=Lib.hid ((HR.out.below HD.out).of_c hT3)
  have HT3:=Lib.hid ((Tch.of_below HAL.out (p:=cObj) (base:=base)).trans ((Tch.of_below HD.out).trans hT3))
  have b0:=HB3.out.cell 0
  have b1:=HB3.out.cell 1
  have x0:=HX3.out.cell 0
  have x1:=HX3.out.cell 1
  have x2:=HX3.out.cell 2
  have hz3 : base <= w3.heap.size:=by have:=hT3.size; omega
  have HC3:=Lib.hid hC3
  clear hT3 hC3 HB HX HR HAL HD hS hw1 hzd
  go_wp2
  go_loopw [22] (fun i wr => i = .int .i64 0 /\ w3 = wr) (fun _ _ => 0)
  case atStart => exact ⟨rfl,rfl⟩
  case' round =>
   obtain ⟨rfl,rfl⟩:=hrel
   go_wp2
  refine region_g [10] (S:=(fun W => W.cell? ⟨o,1,none⟩ = some (.slice A nR c) /\ W.cell? ⟨w.heap.size,0,none⟩ = some (.int .i64 x.k) /\ W.cell? ⟨w.heap.size,1,none⟩ = some (.string x.t) /\ W.cell? ⟨w.heap.size,2,none⟩ = some (.string x.v))) (by kernel_rfl) ⟨b1,x0,x1,x2⟩ (fun hH => ?_)
  refine g_take (i:=0) (v:=.pointer (some ⟨o,0,none⟩)) (by rfl) (by kernel_rfl) (by kernel_rfl) (by kernel_rfl) (by kernel_rfl) (fun _ _ _ h => (by cases h.1)) (Or.inl ⟨by rfl,fun W hS => (by obtain ⟨s0,s1,s2,s3⟩:=hS; go_simp)⟩) hH ?_
  simp only [Act.put,List.setIfInBounds_toArray,List.set_cons_zero,List.set_cons_succ]
  refine g_take (i:=1) (v:=.pointer (some ⟨o,0,none⟩)) (by rfl) (by kernel_rfl) (by kernel_rfl) (by kernel_rfl) (by kernel_rfl) (fun _ _ _ h => (by cases h.1)) (Or.inl ⟨by rfl,fun W hS => (by obtain ⟨s0,s1,s2,s3⟩:=hS; go_simp)⟩) hH ?_
  simp only [Act.put,List.setIfInBounds_toArray,List.set_cons_zero,List.set_cons_succ]
  refine g_take (i:=2) (v:=.pointer (some ⟨o,0,none⟩)) (by rfl) (by kernel_rfl) (by kernel_rfl) (by kernel_rfl) (by kernel_rfl) (fun _ _ _ h => (by cases h.1)) (Or.inl ⟨by rfl,fun W hS => (by obtain ⟨s0,s1,s2,s3⟩:=hS; go_simp)⟩) hH ?_
  simp only [Act.put,List.setIfInBounds_toArray,List.set_cons_zero,List.set_cons_succ]
  refine g_take (i:=3) (v:=.pointer (some ⟨o,1,none⟩)) (by rfl) (by kernel_rfl) (by kernel_rfl) (by kernel_rfl) (by kernel_rfl) (fun _ _ _ h => (by cases h.1)) (Or.inl ⟨by rfl,fun W hS => (by obtain ⟨s0,s1,s2,s3⟩:=hS; go_simp)⟩) hH ?_
  simp only [Act.put,List.setIfInBounds_toArray,List.set_cons_zero,List.set_cons_succ]
  refine g_take (i:=4) (v:=.slice A nR c) (by rfl) (by kernel_rfl) (by kernel_rfl) (by kernel_rfl) (by kernel_rfl) (fun _ _ _ h => (by cases h.1)) (Or.inl ⟨by rfl,fun W hS => (by obtain ⟨s0,s1,s2,s3⟩:=hS; go_simp)⟩) hH ?_
  simp only [Act.put,List.setIfInBounds_toArray,List.set_cons_zero,List.set_cons_succ]
  refine g_take (i:=5) (v:=.agg #[.int .i64 x.k,.string x.t,.string x.v]) (by rfl) (by kernel_rfl) (by kernel_rfl) (by kernel_rfl) (by kernel_rfl) (fun _ _ _ h => (by cases h.1)) (Or.inl ⟨by rfl,fun W hS => (by obtain ⟨s0,s1,s2,s3⟩:=hS; go_simp)⟩) hH ?_
  simp only [Act.put,List.setIfInBounds_toArray,List.set_cons_zero,List.set_cons_succ]
  refine g_one (i:=6) (by kernel_rfl) (by rfl) (fun K hK => ?_)
  go_simp
  refine hK.out _ _ (fun _ => ⟨(HB3.out.drew.alloc _).cell 1,(HX3.out.drew.alloc _).cell 0,(HX3.out.drew.alloc _).cell 1,(HX3.out.drew.alloc _).cell 2⟩) (fun _ => ?_)
  clear hK K hH
  have hBe:=HB3.out.drew.alloc (.cells #[.int .i64 x.k,.string x.t,.string x.v] 67)
  have hXe:=HX3.out.drew.alloc (.cells #[.int .i64 x.k,.string x.t,.string x.v] 67)
  have hdr : Below w3.heap.size w3 w3.drew:=below_drew (Below.refl _ _)
  have hRe:=(HR3.out.below hdr).alloc (.cells #[.int .i64 x.k,.string x.t,.string x.v] 67)
  have hbe : base <= (w3.drew.alloc (.cells #[.int .i64 x.k,.string x.t,.string x.v] 67)).heap.size:=by simp; exact Nat.le_succ_of_le hz3
  refine g_one (i:=7) (by kernel_rfl) (by rfl) (fun K hK => ?_)
  refine step_appT (by rfl) (.tmp 37) (.tmp 39) (by rfl) base (.slice A nR c) l x (by rfl) (by exact hRe) ⟨w3.heap.size,0,none⟩ (by rfl) (by exact cellsOf3 w3.drew _ _ _ _) hl hbe ?_
  intro v4 w4 hown4 hg4 hnb4
  have hnf4:=hnf.nb hnb4 (Nat.le_trans HC3.out.lim (by simp))
  have hrow5:=hown4
  have hT4:=rowT_push (v':=v4) (HR3.out.below hdr) hnf hg4
  obtain ⟨A4,n4,c4,rfl,_⟩:=hown4.shape
  have hB4:=HB3.out.drew.tch hT4 (.inr (by simp only [eObj]; decide))
  have hX4:=hXe.grown hg4 (fun e => by have:=HO.out _ e.symm; omega)
  have hH : w4.cell? ⟨o,1,none⟩ = some (.slice A nR c) /\ w4.cell? ⟨w.heap.size,0,none⟩ = some (.int .i64 x.k) /\ w4.cell? ⟨w.heap.size,1,none⟩ = some (.string x.t) /\ w4.cell? ⟨w.heap.size,2,none⟩ = some (.string x.v):=⟨hB4.cell 1,hX4.cell 0,hX4.cell 1,hX4.cell 2⟩
  refine hK.out _ _ (fun _ => hH) (fun _ => ?_)
  clear hK K
  simp only [Act.put,List.setIfInBounds_toArray,List.set_cons_zero,List.set_cons_succ]
  refine g_one (i:=8) (by kernel_rfl) (by rfl) (fun K hK => ?_)
  go_simp
  refine hK.out _ _ (fun _ => hH) (fun _ => ?_)
  clear hK K
  refine g_one (i:=9) (by kernel_rfl) (by rfl) (fun K hK => ?_)
  go_simp
  refine hK.out _ _ (fun _ => hH) (fun _ => ?_)
  clear hK K
  have d1:=hB4.cell 1
  have f1:=hB4.frozen 1
  have dl:=hB4.lt
  refine g_one (i:=10) (by kernel_rfl) (by rfl) (fun K hK => ?_)
  go_simp
  refine hK.out _ _ (fun h => absurd (List.mem_singleton.2 rfl) h) (fun _ => ?_)
  clear hK K
  refine g_done (by kernel_rfl) ⟨by first | rfl | trivial,?_⟩ _
  have HF : Hid (OAt (w4.setCell ⟨o,1,none⟩ (.slice A4 n4 c4)) base o ck st2 (l ++ [x]) /\ Tch base tObj w (w4.setCell ⟨o,1,none⟩ (.slice A4 n4 c4))):=by
   have ht4 : Tch base eObj w3 w4:=(Tch.of_below hdr).trans hT4
   have hset : Tch base tObj w4 (w4.setCell ⟨o,1,none⟩ (.slice A4 n4 c4)):=(Tch.refl _ _ _).set hB4 hbo hfo (show tObj (.cells _ _ _) from .inr (.inr (.inl rfl))) 1 _
   have hsetO : Tch base oOnly w4 (w4.setCell ⟨o,1,none⟩ (.slice A4 n4 c4)):=(Tch.refl _ _ _).set hB4 hbo hfo (show oOnly (.cells _ _ _) from rfl) 1 _
   refine Lib.hid ⟨⟨⟨_,hB4.set_ 1 _,?_,hnf4⟩,?_,hbo,hfo⟩,((HT3.out.wide fun _ => c_of_t).trans (ht4.wide fun _ => e_of_t)).trans hset⟩
   ·exact hrow5.tch hsetO (fun _ _ => by simp only [oOnly]; decide)
   ·exact (HC3.out.of_e ht4).tch hsetO (fun cs t fr h hc => by simp only [oOnly] at hc; rcases h with rfl | rfl <;> exact absurd hc (by decide)) (fun _ _ hc => hc)
  clear hnb4 hnf4 hB4 hX4 hrow5 hT4 hown4 hg4 hRe hXe hBe hdr HB3 HX3 HR3 HT3 HC3 HO hH d1 f1 dl
  go_wp2
  go_ret
  exact ⟨rfl,HF.out⟩
end Go.Proofs.YtbnppjmmlfncmaaGreatDoor
