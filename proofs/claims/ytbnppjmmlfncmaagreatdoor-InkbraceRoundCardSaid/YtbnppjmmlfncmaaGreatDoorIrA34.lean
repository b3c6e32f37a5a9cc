/-
  The brace machine on what is printed of a tree: it tells just the tree's events. No program is read here.
  A Stream as plain functions on bytes, for any machine. No program is read here.
-/
import Derived.Test.YtbnppjmmlfncmaaGreatDoorIrA33
import Derived.Test.YtbnppjmmlfncmaaGreatDoorIrA07
import Derived.Test.YtbnppjmmlfncmaaGreatDoorIrA17
import Derived.Test.YtbnppjmmlfncmaaGreatDoorIrA04
import Derived.Test.YtbnppjmmlfncmaaGreatDoorIrA03
import Derived.Test.YtbnppjmmlfncmaaGreatDoorIrA06
set_option maxRecDepth 100000
set_option linter.unusedSimpArgs false
set_option linter.unusedVariables false
set_option linter.unusedSectionVars false
namespace Go.Proofs.YtbnppjmmlfncmaaGreatDoor.Br
variable [Fo]
def runBs : Bs -> List UInt8 -> Option Bs
 | s,[] => some s
 | s,b :: r => if (stepB s b).e = 0 then runBs (stepB s b).b r else none
theorem runBs_on {s s1 : Bs} {b : UInt8} {r : List UInt8} (h : stepB s b = ⟨s1,0⟩) : runBs s (b :: r) = runBs s1 r:=by simp [runBs,h]
theorem runBs_append : ∀ (a b : List UInt8) (s s1 : Bs),runBs s a = some s1 -> runBs s (a ++ b) = runBs s1 b
 | [],b,s,s1,h => by simp only [runBs] at h; injection h with h; subst h; rfl
 | x :: a,b,s,s1,h => by
  simp only [runBs,List.cons_append] at h ⊢
  split at h
  ·rw [if_pos ‹_›]
   exact runBs_append a b _ s1 h
  ·cases h
structure Rdy (s : Bs) (a : Int) (op : List UInt8) (st : List Pt) (l : List Ev) : Prop where
 a : s.m.a = a
 op : s.m.op = op
 nm : s.m.nm = ⟨#[]⟩
 st : s.st = st
 l : s.l = l
theorem tell_ok {m : Mc} {st : List Pt} {l : List Ev} {x : Ev} (h : stepE st x = 0) : tellB m st l x = ⟨⟨m,stepS st x,l ++ [x]⟩,0⟩:=by
 unfold tellB tellL
 rw [h,if_pos rfl]
def After (s : Bs) (op : List UInt8) (st : List Pt) (l : List Ev) : Prop :=
 Rdy s 5 op st l \/ (s.m.a = 7 /\ s.m.op = op /\ endC s.m.nm = 0 /\ stepE s.st ⟨3,endS s.m.nm,⟨#[]⟩⟩ = 0 /\ stepS s.st ⟨3,endS s.m.nm,⟨#[]⟩⟩ = st /\ s.l ++ [⟨3,endS s.m.nm,⟨#[]⟩⟩] = l)
theorem step_plain {s : Bs} {b : UInt8} (h : s.m.a ≠ 6 /\ s.m.a ≠ 7 /\ s.m.a ≠ 8) : stepB s b = plainB s b:=by
 unfold stepB
 rw [if_neg h.1,if_neg h.2.2,if_neg h.2.1]
theorem endNum_ok {s : Bs} (h1 : endC s.m.nm = 0) (h2 : stepE s.st ⟨3,endS s.m.nm,⟨#[]⟩⟩ = 0) : endNumB s = ⟨⟨{ s.m with nm:=⟨#[]⟩,a:=5 },stepS s.st ⟨3,endS s.m.nm,⟨#[]⟩⟩,s.l ++ [⟨3,endS s.m.nm,⟨#[]⟩⟩]⟩,0⟩:=by
 unfold endNumB
 rw [if_neg (by omega),tell_ok h2]
theorem may_delim (nm : ByteArray) (b : UInt8) (hb : b = 44 \/ b = 93 \/ b = 125) : mayB1 nm b = false:=by
 unfold mayB1 Nm.begB
 rw [Nm.mst_append]
 have : ∀ a : Int,Nm.mst a [b] = 0:=by
  intro a
  rcases hb with rfl | rfl | rfl <;> (simp [Nm.mst,Nm.stepI])
 rw [this]
 rfl
theorem After.next {s : Bs} {op : List UInt8} {st : List Pt} {l : List Ev} (h : After s op st l) {b : UInt8} (hb : b = 44 \/ b = 93 \/ b = 125) : ∃ s1,Rdy s1 5 op st l /\ stepB s b = plainB s1 b:=by
 rcases h with h | ⟨h1,h2,h3,h4,h5,h6⟩
 ·exact ⟨s,h,step_plain (by rw [h.a]; decide)⟩
 ·have he:=endNum_ok h3 h4
  refine ⟨⟨{ s.m with nm:=⟨#[]⟩,a:=5 },stepS s.st ⟨3,endS s.m.nm,⟨#[]⟩⟩,s.l ++ [⟨3,endS s.m.nm,⟨#[]⟩⟩]⟩,⟨rfl,h2,rfl,h5,h6⟩,?_⟩
  unfold stepB
  rw [if_neg (by rw [h1]; decide),if_neg (by rw [h1]; decide),if_pos h1,may_delim _ b hb,if_neg (by decide),he,if_neg (by simp)]
theorem After.fin {s : Bs} {st : List Pt} {l : List Ev} (h : After s [] st l) : (endB s).e = 0 /\ (endB s).b.l = l /\ (endB s).b.st = st:=by
 rcases h with h | ⟨h1,h2,h3,h4,h5,h6⟩
 ·unfold endB
  simp only [h.a,h.op,show ¬ (5 : Int) = 7 by decide,if_false,ne_eq,not_true_eq_false,or_self]
  exact ⟨trivial,h.l,h.st⟩
 ·have he:=endNum_ok h3 h4
  unfold endB
  simp only [h1,if_true,he,ne_eq,not_true_eq_false,if_false,h2,or_self]
  exact ⟨trivial,h6,h5⟩
theorem plain_mark {s : Bs} {b : UInt8} (h : blankB b = false) : plainB s b = markB s b:=by
 unfold plainB
 rw [if_neg (by rw [h]; decide)]
theorem finish_ok {s : Bs} {op : List UInt8} {c : UInt8} {st : List Pt} {l : List Ev} {a : Int} (h : Rdy s a (op ++ [c]) st l) (x : Ev) (hx : bare (if c.toNat = 125 then 9 else 6) = x) (he : stepE st x = 0) : ∃ s1,finishB s = ⟨s1,0⟩ /\ Rdy s1 5 op (stepS st x) (l ++ [x]):=by
 have ht : topB s.m.op = c:=by rw [h.op]; simp [topB]
 have hd : s.m.op.dropLast = op:=by rw [h.op]; simp
 unfold finishB
 rw [ht,hx,h.st,h.l,tell_ok he]
 exact ⟨_,rfl,rfl,hd,h.nm,rfl,rfl⟩
theorem begin_ok {s : Bs} {op : List UInt8} {st : List Pt} {l : List Ev} {a : Int} (h : Rdy s a op st l) (k : Int) (c : UInt8) (a2 : Int) (he : stepE st (bare k) = 0) : ∃ s1,beginB s k c a2 = ⟨s1,0⟩ /\ Rdy s1 a2 (op ++ [c]) (stepS st (bare k)) (l ++ [bare k]):=by
 unfold beginB
 rw [h.st,h.l,tell_ok he]
 exact ⟨_,rfl,rfl,by rw [h.op],h.nm,rfl,rfl⟩
theorem after_comma {s : Bs} {op : List UInt8} {c : UInt8} {st : List Pt} {l : List Ev} (h : After s (op ++ [c]) st l) (hc : c = 93 \/ c = 125) : ∃ s1,stepB s 44 = ⟨s1,0⟩ /\ Rdy s1 (if c = 125 then 3 else 0) (op ++ [c]) st l:=by
 obtain ⟨s1,h1,h2⟩:=h.next (b:=44) (.inl rfl)
 rw [h2,plain_mark (by decide)]
 have ht : topB s1.m.op = c:=by rw [h1.op]; simp [topB]
 have hm : markB s1 44 = behindB s1 44:=by
  unfold markB
  rw [h1.a]
  rfl
 rw [hm]
 unfold behindB
 rw [if_neg (by rw [h1.op]; simp),ht]
 rcases hc with rfl | rfl
 iterate 2
  ·exact ⟨_,rfl,rfl,h1.op,h1.nm,h1.st,h1.l⟩
theorem after_close {s : Bs} {op : List UInt8} {c : UInt8} {st : List Pt} {l : List Ev} (h : After s (op ++ [c]) st l) (hc : c = 93 \/ c = 125) (x : Ev) (hx : bare (if c.toNat = 125 then 9 else 6) = x) (he : stepE st x = 0) : ∃ s1,stepB s c = ⟨s1,0⟩ /\ Rdy s1 5 op (stepS st x) (l ++ [x]):=by
 obtain ⟨s1,h1,h2⟩:=h.next (b:=c) (by rcases hc with rfl | rfl <;> simp)
 rw [h2,plain_mark (by rcases hc with rfl | rfl <;> decide)]
 have ht : topB s1.m.op = c:=by rw [h1.op]; simp [topB]
 have hm : markB s1 c = finishB s1:=by
  unfold markB
  rw [h1.a]
  rcases hc with rfl | rfl
  ·simp [behindB,h1.op,topB]
  ·simp [behindB,h1.op,topB]
 rw [hm]
 exact finish_ok h1 x hx he
theorem empty_close {s : Bs} {op : List UInt8} {c : UInt8} {st : List Pt} {l : List Ev} (h : Rdy s (if c = 125 then 2 else 1) (op ++ [c]) st l) (hc : c = 93 \/ c = 125) (x : Ev) (hx : bare (if c.toNat = 125 then 9 else 6) = x) (he : stepE st x = 0) : ∃ s1,stepB s c = ⟨s1,0⟩ /\ Rdy s1 5 op (stepS st x) (l ++ [x]):=by
 rw [step_plain (by rw [h.a]; rcases hc with rfl | rfl <;> decide),plain_mark (by rcases hc with rfl | rfl <;> decide)]
 have hm : markB s c = finishB s:=by
  unfold markB
  rw [h.a]
  rcases hc with rfl | rfl <;> simp
 rw [hm]
 exact finish_ok h x hx he
theorem str_run : ∀ (bs : List UInt8) (q : Qt.QS) (i : Nat) (L : List UInt8) (s : Bs),s.m.a = 8 -> s.m.q = q -> Qt.qRun q i bs = ⟨L,i + bs.length - 1,true,0⟩ -> stepE s.st ⟨s.m.ek,⟨L.toArray⟩,s.m.ev⟩ = 0 ->
 ∃ s1,runBs s bs = some s1 /\ Rdy s1 (if s.m.ek = 8 then 4 else 5) s.m.op (stepS s.st ⟨s.m.ek,⟨L.toArray⟩,s.m.ev⟩) (s.l ++ [⟨s.m.ek,⟨L.toArray⟩,s.m.ev⟩]) \/ s.m.nm ≠ ⟨#[]⟩
 | [],q,i,L,s,ha,hq,hr,he => by simp [Qt.qRun] at hr
 | b :: t,q,i,L,s,ha,hq,hr,he => by
  by_cases hnm : s.m.nm = ⟨#[]⟩
  case neg => exact ⟨s,.inr hnm⟩
  have hs : stepB s b = charB s b:=by
   unfold stepB
   rw [if_neg (by rw [ha]; decide),if_pos ha]
  simp only [Qt.qRun] at hr
  split at hr
  ·rename_i hd
   injection hr with h1 h2 h3 h4
   have ht : t = []:=List.eq_nil_of_length_eq_zero (by simp only [List.length_cons] at h2; omega)
   subst ht
   have hc : charB s b = tellB { s.m with q:=(Qt.qStep q (b.toNat : Int)).q,a:=if s.m.ek = 8 then 4 else 5,et:=⟨L.toArray⟩ } s.st s.l ⟨s.m.ek,⟨L.toArray⟩,s.m.ev⟩:=by
    unfold charB
    rw [hq]
    simp only [h1,h3,h4]
    rw [if_neg (by simp)]
   rw [tell_ok he] at hc
   refine ⟨_,.inl ⟨(runBs_on (hs.trans hc)).trans rfl,?_⟩⟩
   exact ⟨rfl,rfl,hnm,rfl,rfl⟩
  ·rename_i hd
   have hd1 : (Qt.qStep q (b.toNat : Int)).done = false:=by simpa using fun h => hd (.inl h)
   have hd2 : (Qt.qStep q (b.toNat : Int)).e = 0:=by
    by_cases h : (Qt.qStep q (b.toNat : Int)).e = 0
    ·exact h
    ·exact absurd (.inr h) hd
   have hc : charB s b = ⟨{ s with m:={ s.m with q:=(Qt.qStep q (b.toNat : Int)).q } },0⟩:=by
    unfold charB
    rw [hq]
    simp only [hd1,hd2]
    rw [if_pos (by simp)]
   have hne : t ≠ []:=fun e => by
    subst e
    simp [Qt.qRun] at hr
   have hlen : i + (b :: t).length - 1 = (i + 1) + t.length - 1:=by simp only [List.length_cons]; omega
   rw [hlen] at hr
   obtain ⟨s1,h1⟩:=str_run t _ (i + 1) L { s with m:={ s.m with q:=(Qt.qStep q (b.toNat : Int)).q } } ha rfl hr he
   refine ⟨s1,?_⟩
   rw [runBs_on (hs.trans hc)]
   exact h1
theorem text_run {s : Bs} {op : List UInt8} {st : List Pt} {l : List Ev} {a : Int} (h : Rdy s a op st l) (k : Int) (hm : stepB s 34 = stringB s k) (t : ByteArray) (hv : validL t.data.toList = true) (he : stepE st ⟨k,t,⟨#[]⟩⟩ = 0) :
 ∃ s1,runBs s (Qt.prText t.data.toList) = some s1 /\ Rdy s1 (if k = 8 then 4 else 5) op (stepS st ⟨k,t,⟨#[]⟩⟩) (l ++ [⟨k,t,⟨#[]⟩⟩]):=by
 simp only [validL,Bool.and_eq_true,decide_eq_true_iff] at hv
 have hp : Qt.prText t.data.toList = 34 :: (Qt.prAll t.data.toList ++ [34]):=by
  unfold Qt.prText
  rw [if_pos hv.2,if_neg (by omega)]
  rfl
 have hall:=Qt.all_print t.data.toList hv.1
 unfold Qt.qAll Qt.printL at hall
 simp only [List.drop_succ_cons,List.drop_zero] at hall
 have hrun:=str_run (Qt.prAll t.data.toList ++ [34]) (Qt.plainQ []) 0 t.data.toList ⟨{ s.m with a:=8,ek:=k,et:=⟨#[]⟩,ev:=⟨#[]⟩,q:=Qt.plainQ [] },s.st,s.l⟩ rfl rfl (by rw [hall]; simp) (by rw [h.st]; exact he)
 obtain ⟨s1,h1⟩:=hrun
 rcases h1 with ⟨h1,h2⟩ | h1
 ·refine ⟨s1,?_,?_⟩
  ·rw [hp,runBs_on (show stepB s 34 = ⟨⟨{ s.m with a:=8,ek:=k,et:=⟨#[]⟩,ev:=⟨#[]⟩,q:=Qt.plainQ [] },s.st,s.l⟩,0⟩ from hm)]
   exact h1
  ·have:=h2
   simp only [h.op,h.st,h.l] at this
   exact this
 ·exact absurd h.nm h1
theorem beg_pre {a b : List UInt8} (h : Nm.begB (a ++ b) = true) : Nm.begB a = true:=by
 unfold Nm.begB at h ⊢
 rw [Nm.mst_append] at h
 simp only [decide_eq_true_iff] at h ⊢
 intro e
 rw [e,Nm.mst_0] at h
 exact h rfl
theorem beg_first {c : UInt8} (h : Nm.begB [c] = true) : c.toNat = 45 \/ (48 <= c.toNat /\ c.toNat <= 57):=by
 unfold Nm.begB Nm.mst Nm.mst Nm.stepI at h
 simp only [decide_eq_true_iff] at h
 by_cases h1 : (c.toNat : Int) = 48
 ·omega
 rw [if_neg h1] at h
 by_cases h2 : 49 <= (c.toNat : Int) /\ (c.toNat : Int) <= 57
 ·omega
 rw [if_neg h2] at h
 by_cases h3 : (c.toNat : Int) = 45
 ·omega
 rw [if_neg h3] at h
 simp at h
theorem snoc_bytes (pre : List UInt8) (b : UInt8) : (⟨pre.toArray⟩ : ByteArray) ++ ⟨#[b]⟩ = ⟨(pre ++ [b]).toArray⟩:=by simp [ByteArray.append_eq,ByteArray.ext_iff,ByteArray.data_append]
theorem num_run : ∀ (t pre : List UInt8) (s : Bs),s.m.a = 7 -> s.m.nm = ⟨pre.toArray⟩ -> Nm.begB (pre ++ t) = true -> (pre ++ t).length <= 30 -> runBs s t = some { s with m:={ s.m with nm:=⟨(pre ++ t).toArray⟩ } }
 | [],pre,s,ha,hn,hb,hl => by
  simp only [runBs,List.append_nil,<- hn]
 | b :: t,pre,s,ha,hn,hb,hl => by
  have hm : mayB1 s.m.nm b = true:=by
   unfold mayB1
   rw [hn]
   exact beg_pre (b:=t) (by simpa using hb)
  have hs : stepB s b = ⟨{ s with m:={ s.m with nm:=⟨(pre ++ [b]).toArray⟩ } },0⟩:=by
   unfold stepB
   rw [if_neg (by rw [ha]; decide),if_neg (by rw [ha]; decide),if_pos ha,if_pos hm]
   unfold digitB
   have hsz : s.m.nm.size = pre.length:=by rw [hn]; simp [ByteArray.size]
   rw [if_neg (by rw [hsz]; simp at hl; omega),hn,snoc_bytes]
  rw [runBs_on hs]
  have:=num_run t (pre ++ [b]) { s with m:={ s.m with nm:=⟨(pre ++ [b]).toArray⟩ } } ha rfl (by simpa using hb) (by simpa using hl)
  rw [this]
  simp
theorem norm_facts {t : ByteArray} (h : normL t.data.toList = true) : Nm.begB t.data.toList = true /\ t.data.toList.length <= 30 /\ endC t = 0 /\ endS t = t:=by
 unfold normL at h
 cases hr : Nm.readL t.data.toList with
 | none => rw [hr] at h; cases h
 | some v =>
  rw [hr] at h
  have hf : Nm.formL v = t.data.toList:=of_decide_eq_true h
  have hi : Nm.isB t.data.toList = true /\ t.data.toList.length <= 30:=by
   unfold Nm.readL Nm.readE at hr
   by_cases h30 : Nm.isB t.data.toList = true /\ t.data.toList.length <= 30
   ·exact h30
   ·rw [if_neg h30] at hr; cases hr
  refine ⟨Nm.is_begins hi.1,hi.2,?_,?_⟩
  ·unfold endC
   rw [if_pos hi.1,Nm.readC_some hr]
  ·unfold endS
   rw [if_pos hi.1,Nm.readS_some hr,hf]
theorem number_run {s : Bs} {op : List UInt8} {st : List Pt} {l : List Ev} {a : Int} (ha : a = 0 \/ a = 1) (h : Rdy s a op st l) (t : ByteArray) (hn : normL t.data.toList = true) (he : stepE st ⟨3,t,⟨#[]⟩⟩ = 0) :
 ∃ s1,runBs s t.data.toList = some s1 /\ After s1 op (stepS st ⟨3,t,⟨#[]⟩⟩) (l ++ [⟨3,t,⟨#[]⟩⟩]):=by
 obtain ⟨hb,hl,hc,hs⟩:=norm_facts hn
 cases hL : t.data.toList with
 | nil => rw [hL] at hn; exact absurd hn (by decide +kernel)
 | cons c r =>
  rw [hL] at hb hl
  have h1 : Nm.begB [c] = true:=beg_pre (b:=r) (by simpa using hb)
  have h2:=beg_first h1
  have hm : mayB1 s.m.nm c = true:=by
   unfold mayB1
   rw [h.nm]
   exact h1
  have hst : stepB s c = ⟨{ s with m:={ s.m with a:=7,nm:=⟨[c].toArray⟩ } },0⟩:=by
   rw [step_plain (by rw [h.a]; rcases ha with rfl | rfl <;> decide),plain_mark (by unfold blankB; rw [decide_eq_false]; omega)]
   have hv : markB s c = valueB s c:=by
    unfold markB
    rw [h.a]
    rcases ha with rfl | rfl
    ·simp
    ·simp; omega
   rw [hv]
   unfold valueB
   rw [if_neg (by omega),if_neg (by omega),if_neg (by omega),if_neg (by omega),if_neg (by omega),if_neg (by omega),hm,if_neg (by decide)]
   unfold digitB
   simp only [h.nm]
   rw [if_neg (by decide)]
   rfl
  have hrun:=num_run r [c] { s with m:={ s.m with a:=7,nm:=⟨[c].toArray⟩ } } rfl rfl (by simpa using hb) (by simpa using hl)
  refine ⟨_,(runBs_on hst).trans hrun,.inr ?_⟩
  have ht : (⟨([c] ++ r).toArray⟩ : ByteArray) = t:=by
   have : ([c] ++ r) = t.data.toList:=by rw [hL]; rfl
   rw [this]
  simp only [ht,hs,h.st,h.l,h.op,hc]
  exact ⟨trivial,trivial,trivial,he,trivial,trivial⟩
theorem cut_one (b : UInt8) (r : List UInt8) : (⟨(b :: r).toArray⟩ : ByteArray).extract 1 (⟨(b :: r).toArray⟩ : ByteArray).size = ⟨r.toArray⟩:=by
 simp [ByteArray.ext_iff,ByteArray.data_extract,ByteArray.size]
theorem letter_step (op : List UInt8) (ek : Int) (et ev nm : ByteArray) (q : Qt.QS) (st : List Pt) (l : List Ev) (b c : UInt8) (r : List UInt8) :
 stepB ⟨⟨6,op,ek,et,ev,⟨(b :: c :: r).toArray⟩,nm,q⟩,st,l⟩ b = ⟨⟨⟨6,op,ek,et,ev,⟨(c :: r).toArray⟩,nm,q⟩,st,l⟩,0⟩:=by
 have h1 : (⟨(b :: c :: r).toArray⟩ : ByteArray).data.toList.head? = some b:=rfl
 have h2 : ¬ (⟨(b :: c :: r).toArray⟩ : ByteArray).size = 1:=by simp [ByteArray.size]
 unfold stepB letterB
 rw [if_pos rfl]
 simp only
 rw [if_pos h1,if_neg h2,cut_one]
theorem letter_last (op : List UInt8) (ek : Int) (et ev nm : ByteArray) (q : Qt.QS) (st : List Pt) (l : List Ev) (b : UInt8) (he : stepE st ⟨ek,et,ev⟩ = 0) :
 stepB ⟨⟨6,op,ek,et,ev,⟨[b].toArray⟩,nm,q⟩,st,l⟩ b = ⟨⟨⟨5,op,ek,et,ev,⟨#[]⟩,nm,q⟩,stepS st ⟨ek,et,ev⟩,l ++ [⟨ek,et,ev⟩]⟩,0⟩:=by
 have h1 : (⟨[b].toArray⟩ : ByteArray).data.toList.head? = some b:=rfl
 have h2 : (⟨[b].toArray⟩ : ByteArray).size = 1:=by simp [ByteArray.size]
 unfold stepB letterB
 rw [if_pos rfl]
 simp only
 rw [if_pos h1,if_pos h2,cut_one,tell_ok he]
theorem letters_run (op : List UInt8) (ek : Int) (et ev nm : ByteArray) (q : Qt.QS) (st : List Pt) (l : List Ev) (he : stepE st ⟨ek,et,ev⟩ = 0) : ∀ (r : List UInt8) (b : UInt8),
 runBs ⟨⟨6,op,ek,et,ev,⟨(b :: r).toArray⟩,nm,q⟩,st,l⟩ (b :: r) = some ⟨⟨5,op,ek,et,ev,⟨#[]⟩,nm,q⟩,stepS st ⟨ek,et,ev⟩,l ++ [⟨ek,et,ev⟩]⟩
 | [],b => by rw [runBs_on (letter_last op ek et ev nm q st l b he)]; rfl
 | c :: r,b => by rw [runBs_on (letter_step op ek et ev nm q st l b c r)]; exact letters_run op ek et ev nm q st l he r c
theorem word_first {s : Bs} {op : List UInt8} {st : List Pt} {l : List Ev} {a : Int} (ha : a = 0 \/ a = 1) (h : Rdy s a op st l) (c : UInt8) (k : Int) (t r : ByteArray) (hc : (c = 110 /\ k = 1 /\ t = ⟨#[]⟩ /\ r = ⟨#[117,108,108]⟩) \/ (c = 116 /\ k = 2 /\ t = ⟨#[116,114,117,101]⟩ /\ r = ⟨#[114,117,101]⟩) \/ (c = 102 /\ k = 2 /\ t = ⟨#[102,97,108,115,101]⟩ /\ r = ⟨#[97,108,115,101]⟩)) :
 stepB s c = ⟨⟨⟨6,op,k,t,⟨#[]⟩,r,⟨#[]⟩,s.m.q⟩,st,l⟩,0⟩:=by
 rw [step_plain (by rw [h.a]; rcases ha with rfl | rfl <;> decide),plain_mark (by rcases hc with ⟨rfl,_⟩ | ⟨rfl,_⟩ | ⟨rfl,_⟩ <;> decide)]
 have hv : markB s c = valueB s c:=by
  unfold markB
  rw [h.a]
  rcases ha with rfl | rfl <;> rcases hc with ⟨rfl,_⟩ | ⟨rfl,_⟩ | ⟨rfl,_⟩ <;> simp
 rw [hv]
 obtain ⟨m,st',l'⟩:=s
 have h3:=h.st
 have h4:=h.l
 have h5:=h.op
 have h6:=h.nm
 simp only at h3 h4 h5 h6
 subst h3 h4
 unfold valueB wordB
 simp only
 rw [h5,h6]
 rcases hc with ⟨rfl,rfl,rfl,rfl⟩ | ⟨rfl,rfl,rfl,rfl⟩ | ⟨rfl,rfl,rfl,rfl⟩
 ·rw [if_neg (by decide),if_neg (by decide),if_neg (by decide),if_pos (by decide)]
 ·rw [if_neg (by decide),if_neg (by decide),if_neg (by decide),if_neg (by decide),if_pos (by decide)]
 ·rw [if_neg (by decide),if_neg (by decide),if_neg (by decide),if_neg (by decide),if_neg (by decide),if_pos (by decide)]
theorem word_run {s : Bs} {op : List UInt8} {st : List Pt} {l : List Ev} {a : Int} (ha : a = 0 \/ a = 1) (h : Rdy s a op st l) (w : List UInt8) (x : Ev)
 (hw : (w = [110,117,108,108] /\ x = ⟨1,⟨#[]⟩,⟨#[]⟩⟩) \/ (w = [116,114,117,101] /\ x = ⟨2,⟨#[116,114,117,101]⟩,⟨#[]⟩⟩) \/ (w = [102,97,108,115,101] /\ x = ⟨2,⟨#[102,97,108,115,101]⟩,⟨#[]⟩⟩)) (he : stepE st x = 0) :
 ∃ s1,runBs s w = some s1 /\ Rdy s1 5 op (stepS st x) (l ++ [x]):=by
 rcases hw with ⟨rfl,rfl⟩ | ⟨rfl,rfl⟩ | ⟨rfl,rfl⟩
 ·refine ⟨_,(runBs_on (word_first ha h 110 1 _ _ (.inl ⟨rfl,rfl,rfl,rfl⟩))).trans (letters_run op 1 _ _ _ _ st l he [108,108] 117),rfl,rfl,rfl,rfl,rfl⟩
 ·refine ⟨_,(runBs_on (word_first ha h 116 2 _ _ (.inr (.inl ⟨rfl,rfl,rfl,rfl⟩)))).trans (letters_run op 2 _ _ _ _ st l he [117,101] 114),rfl,rfl,rfl,rfl,rfl⟩
 ·refine ⟨_,(runBs_on (word_first ha h 102 2 _ _ (.inr (.inr ⟨rfl,rfl,rfl,rfl⟩)))).trans (letters_run op 2 _ _ _ _ st l he [108,115,101] 97),rfl,rfl,rfl,rfl,rfl⟩
theorem empty_ba {t : ByteArray} (h : emptyT t = true) : t = ⟨#[]⟩:=by
 have h1 : t.data.toList = []:=of_decide_eq_true h
 have h2 : t.data = #[]:=by
  rw [<- Array.toList_inj]
  exact h1
 cases t
 simp only at h2
 rw [h2]
theorem list_ba {t : ByteArray} {L : List UInt8} (h : t.data.toList = L) : t = ⟨L.toArray⟩:=by
 subst h
 cases t
 simp
def ReadsV (n : Nd) : Prop:=∀ (s : Bs) (a : Int) (op : List UInt8) (st : List Pt) (l : List Ev),(a = 0 \/ a = 1) -> Rdy s a op st l -> allOk st (flat n) -> ∃ s1,runBs s (inkN n) = some s1 /\ After s1 op (runS st (flat n)) (l ++ flat n)
def ReadsK (n : Nd) : Prop:=∀ (s : Bs) (a : Int) (op : List UInt8) (st : List Pt) (l : List Ev),(a = 2 \/ a = 3) -> Rdy s a op st l -> allOk st (flat n) -> ∃ s1,runBs s (inkN n) = some s1 /\ After s1 op (runS st (flat n)) (l ++ flat n)
theorem runS_cons (st : List Pt) (x : Ev) (l : List Ev) : runS st (x :: l) = runS (stepS st x) l:=rfl
theorem rest_run (c : UInt8) (hc : c = 93 \/ c = 125) : ∀ (r : List Nd) (_ : ∀ n ∈ r,if c = 125 then ReadsK n else ReadsV n) (s : Bs) (op : List UInt8) (st : List Pt) (l : List Ev),After s (op ++ [c]) st l -> allOk st (flatL r) -> ∃ s1,runBs s (inkL false r) = some s1 /\ After s1 (op ++ [c]) (runS st (flatL r)) (l ++ flatL r)
 | [],_,s,op,st,l,h,_ => ⟨s,rfl,by simpa [flatL,runS] using h⟩
 | n :: r,hv,s,op,st,l,h,ho => by
  simp only [flatL] at ho ⊢
  obtain ⟨ho1,ho2⟩:=(allOk_append _ _ _).1 ho
  obtain ⟨s1,h1,hr1⟩:=after_comma h hc
  have hn:=hv n (by simp)
  have key : ∃ s2,runBs s1 (inkN n) = some s2 /\ After s2 (op ++ [c]) (runS st (flat n)) (l ++ flat n):=by
   rcases hc with rfl | rfl
   ·exact hn s1 0 _ _ _ (.inl rfl) hr1 ho1
   ·exact hn s1 3 _ _ _ (.inr rfl) hr1 ho1
  obtain ⟨s2,h2,hr2⟩:=key
  obtain ⟨s3,h3,hr3⟩:=rest_run c hc r (fun m hm => hv m (by simp [hm])) s2 op _ _ hr2 ho2
  refine ⟨s3,?_,?_⟩
  ·simp only [inkL]
   rw [show (if false = true then ([] : List UInt8) else [44]) ++ (inkN n ++ inkL false r) = 44 :: (inkN n ++ inkL false r) from rfl,runBs_on h1,runBs_append _ _ _ _ h2]
   exact h3
  ·rw [runS_append,<- List.append_assoc]
   exact hr3
theorem between_run (c : UInt8) (hc : c = 93 \/ c = 125) (r : List Nd) (hv : ∀ n ∈ r,if c = 125 then ReadsK n else ReadsV n) (s : Bs) (op : List UInt8) (st : List Pt) (l : List Ev) (h : Rdy s (if c = 125 then 2 else 1) (op ++ [c]) st l) (x : Ev) (hx : bare (if c.toNat = 125 then 9 else 6) = x) (ho : allOk st (flatL r ++ [x])) :
 ∃ s1,runBs s (inkL true r ++ [c]) = some s1 /\ Rdy s1 5 op (runS st (flatL r ++ [x])) (l ++ (flatL r ++ [x])):=by
 obtain ⟨ho1,ho2⟩:=(allOk_append _ _ _).1 ho
 cases r with
 | nil =>
  obtain ⟨s1,h1,h2⟩:=empty_close h hc x hx ho2.1
  refine ⟨s1,?_,?_⟩
  ·simp only [inkL,List.nil_append]
   rw [runBs_on h1]
   rfl
  ·simpa [flatL,runS] using h2
 | cons n r =>
  simp only [flatL] at ho1 ho2 ⊢
  obtain ⟨ho3,ho4⟩:=(allOk_append _ _ _).1 ho1
  have hn:=hv n (by simp)
  have key : ∃ s2,runBs s (inkN n) = some s2 /\ After s2 (op ++ [c]) (runS st (flat n)) (l ++ flat n):=by
   rcases hc with rfl | rfl
   ·exact hn s 1 _ _ _ (.inr rfl) h ho3
   ·exact hn s 2 _ _ _ (.inl rfl) h ho3
  obtain ⟨s2,h2,hr2⟩:=key
  obtain ⟨s3,h3,hr3⟩:=rest_run c hc r (fun m hm => hv m (by simp [hm])) s2 op _ _ hr2 ho4
  rw [<- runS_append] at hr3
  obtain ⟨s4,h4,hr4⟩:=after_close hr3 hc x hx ho2.1
  refine ⟨s4,?_,?_⟩
  ·have e : inkL true (n :: r) ++ [c] = inkN n ++ (inkL false r ++ [c]):=by simp [inkL]
   rw [e,runBs_append _ _ _ _ h2,runBs_append _ _ _ _ h3,runBs_on h4]
   rfl
  ·rw [runS_append]
   have : runS (runS st (flat n ++ flatL r)) [x] = stepS (runS st (flat n ++ flatL r)) x:=rfl
   rw [this]
   simpa [List.append_assoc] using hr4
theorem brc_kids {n m : Nd} (h : srN badS nextS n .brc = none) (hm : m ∈ n.kids) : srN badS nextS m .brc = none:=by
 obtain ⟨k,t,v,l⟩:=n
 rw [srN_def] at h
 split at h
 ·cases h
 ·simp only [Nd.kids] at hm h
  have key : ∀ (r : List Nd) (i : Nat),srL badS nextS r (nextS .brc (.mk k t v l)) i = none -> ∀ m ∈ r,srN badS nextS m .brc = none:=by
   intro r
   induction r with
   | nil => intro _ _ m hm; cases hm
   | cons y r ih =>
    intro i h m hm
    rw [srL_cons] at h
    split at h
    ·cases h
    ·rename_i e
     rcases List.mem_cons.1 hm with rfl | hm
     ·exact e
     ·exact ih _ h m hm
  exact key l 0 h m hm
theorem reads_all (n : Nd) : gram n -> srN badS nextS n .brc = none -> (n.k ≠ 8 -> valueK n.k = true -> ReadsV n) /\ (n.k = 8 -> ReadsK n):=by
 induction n using Nd.ind with
 | h k t v kids ih =>
  intro hg hb
  have hh:=hg.head
  have hf:=hh.1
  simp only [Nd.k,Nd.t,Nd.v,Nd.kids] at hh hf ⊢
  have h10 : k ≠ 10:=fun e => by
   rw [srN_def,if_pos (by simp [badS,Nd.k,e])] at hb
   cases hb
  have hkid : ∀ m ∈ kids,(m.k ≠ 8 -> valueK m.k = true -> ReadsV m) /\ (m.k = 8 -> ReadsK m):=fun m hm => ih m hm (hg.kid hm) (brc_kids hb hm)
  refine ⟨fun h8 hv => ?_,fun h8 => ?_⟩
  ·intro s a op st l ha hr ho
   have h2 : k = 1 \/ k = 2 \/ k = 3 \/ k = 4 \/ k = 5 \/ k = 7 \/ k = 10:=of_decide_eq_true hv
   unfold formedB bareK at hf
   have hleaf : k ≠ 5 /\ k ≠ 7 /\ k ≠ 8 /\ k ≠ 10 -> kids = []:=fun h => hg.leaf h
   have hend : k ≠ 5 /\ k ≠ 7 /\ k ≠ 10 -> endL k = []:=fun h => by
    unfold endL opensK
    rw [decide_eq_false (by omega)]
    rfl
   rcases h2 with rfl | rfl | rfl | rfl | rfl | rfl | rfl
   ·obtain rfl:=hleaf (by decide)
    have hfl : flat (.mk 1 t v []) = [⟨1,⟨#[]⟩,⟨#[]⟩⟩]:=by
     have h3:=show emptyT t = true /\ emptyT v = true by simpa using hf
     rw [empty_ba h3.1,empty_ba h3.2]
     rfl
    rw [hfl] at ho ⊢
    rw [inkN_1]
    obtain ⟨s1,h1,h2⟩:=word_run ha hr _ _ (.inl ⟨rfl,rfl⟩) ho.1
    exact ⟨s1,h1,.inl h2⟩
   ·obtain rfl:=hleaf (by decide)
    have h3:=show emptyT v = true /\ boolL t.data.toList = true by simpa using hf
    rw [inkN_e _ _ _ (by decide) (by decide) (by decide) (by decide) (by decide)]
    have h4 : t.data.toList = [116,114,117,101] \/ t.data.toList = [102,97,108,115,101]:=by simpa [boolL] using h3.2
    have hfl : flat (.mk 2 t v []) = [⟨2,t,⟨#[]⟩⟩]:=by rw [empty_ba h3.1]; rfl
    rw [hfl] at ho ⊢
    rcases h4 with h4 | h4
    ·obtain ⟨s1,h1,h2⟩:=word_run ha hr t.data.toList ⟨2,t,⟨#[]⟩⟩ (.inr (.inl ⟨h4,by rw [list_ba h4]⟩)) ho.1
     exact ⟨s1,h1,.inl h2⟩
    ·obtain ⟨s1,h1,h2⟩:=word_run ha hr t.data.toList ⟨2,t,⟨#[]⟩⟩ (.inr (.inr ⟨h4,by rw [list_ba h4]⟩)) ho.1
     exact ⟨s1,h1,.inl h2⟩
   ·obtain rfl:=hleaf (by decide)
    have h3:=show emptyT v = true /\ normL t.data.toList = true by simpa using hf
    rw [inkN_e _ _ _ (by decide) (by decide) (by decide) (by decide) (by decide)]
    have hfl : flat (.mk 3 t v []) = [⟨3,t,⟨#[]⟩⟩]:=by rw [empty_ba h3.1]; rfl
    rw [hfl] at ho ⊢
    exact number_run ha hr t h3.2 ho.1
   ·obtain rfl:=hleaf (by decide)
    have h3:=show emptyT v = true /\ validL t.data.toList = true by simpa using hf
    rw [inkN_4]
    have hfl : flat (.mk 4 t v []) = [⟨4,t,⟨#[]⟩⟩]:=by rw [empty_ba h3.1]; rfl
    rw [hfl] at ho ⊢
    have hm : stepB s 34 = stringB s 4:=by
     rw [step_plain (by rw [hr.a]; rcases ha with rfl | rfl <;> decide),plain_mark (by decide)]
     unfold markB
     rw [hr.a]
     rcases ha with rfl | rfl <;> simp [valueB]
    obtain ⟨s1,h1,h2⟩:=text_run hr 4 hm t h3.2 ho.1
    exact ⟨s1,h1,.inl h2⟩
   ·have h3:=show emptyT t = true /\ emptyT v = true by simpa using hf
    rw [inkN_5]
    have hfl : flat (.mk 5 t v kids) = bare 5 :: (flatL kids ++ [bare 6]):=by rw [empty_ba h3.1,empty_ba h3.2]; rfl
    rw [hfl] at ho ⊢
    have hm : stepB s 91 = beginB s 5 93 1:=by
     rw [step_plain (by rw [hr.a]; rcases ha with rfl | rfl <;> decide),plain_mark (by decide)]
     unfold markB
     rw [hr.a]
     rcases ha with rfl | rfl <;> simp [valueB]
    obtain ⟨s1,h1,hr1⟩:=begin_ok hr 5 93 1 ho.1
    obtain ⟨s2,h2,hr2⟩:=between_run 93 (.inl rfl) kids (fun m hm => by
     have h5:=hh.2.2.1 (.inl rfl) m hm
     rw [if_neg (by decide)]
     exact (hkid m hm).1 (fun e => by rw [e] at h5; exact absurd h5 (by decide)) h5) s1 op _ _ hr1 (bare 6) rfl ho.2
    refine ⟨s2,?_,.inl ?_⟩
    ·rw [runBs_on (hm.trans h1)]
     exact h2
    ·rw [runS_cons]
     simpa [List.append_assoc] using hr2
   ·have h3:=show emptyT t = true /\ emptyT v = true by simpa using hf
    rw [inkN_7]
    have hfl : flat (.mk 7 t v kids) = bare 7 :: (flatL kids ++ [bare 9]):=by rw [empty_ba h3.1,empty_ba h3.2]; rfl
    rw [hfl] at ho ⊢
    have hm : stepB s 123 = beginB s 7 125 2:=by
     rw [step_plain (by rw [hr.a]; rcases ha with rfl | rfl <;> decide),plain_mark (by decide)]
     unfold markB
     rw [hr.a]
     rcases ha with rfl | rfl <;> simp [valueB]
    obtain ⟨s1,h1,hr1⟩:=begin_ok hr 7 125 2 ho.1
    obtain ⟨s2,h2,hr2⟩:=between_run 125 (.inr rfl) kids (fun m hm => by
     rw [if_pos rfl]
     exact (hkid m hm).2 ((hh.2.2.2.1 rfl).1 m hm)) s1 op _ _ hr1 (bare 9) rfl ho.2
    refine ⟨s2,?_,.inl ?_⟩
    ·rw [runBs_on (hm.trans h1)]
     exact h2
    ·rw [runS_cons]
     simpa [List.append_assoc] using hr2
   ·exact absurd rfl h10
  ·subst h8
   intro s a op st l ha hr ho
   obtain ⟨m,hm,hmv,hmg⟩:=hg.key rfl
   simp only [Nd.kids] at hm
   subst hm
   have h3:=show emptyT v = true /\ validL t.data.toList = true by
    unfold formedB bareK at hf
    simpa using hf
   rw [inkN_8]
   have hfl : flat (.mk 8 t v [m]) = ⟨8,t,⟨#[]⟩⟩ :: flat m:=by
    rw [empty_ba h3.1]
    show _ :: (flatL [m] ++ []) = _
    simp [flatL]
   rw [hfl] at ho ⊢
   have hmk : stepB s 34 = stringB s 8:=by
    rw [step_plain (by rw [hr.a]; rcases ha with rfl | rfl <;> decide),plain_mark (by decide)]
    unfold markB
    rw [hr.a]
    rcases ha with rfl | rfl <;> simp
   obtain ⟨s1,h1,hr1⟩:=text_run hr 8 hmk t h3.2 ho.1
   rw [if_pos rfl] at hr1
   have hcol : ∃ s2,stepB s1 58 = ⟨s2,0⟩ /\ Rdy s2 0 op (stepS st ⟨8,t,⟨#[]⟩⟩) (l ++ [⟨8,t,⟨#[]⟩⟩]):=by
    rw [step_plain (by rw [hr1.a]; decide),plain_mark (by decide)]
    unfold markB
    rw [if_pos ⟨hr1.a,by decide⟩]
    exact ⟨_,rfl,rfl,hr1.op,hr1.nm,hr1.st,hr1.l⟩
   obtain ⟨s2,h2,hr2⟩:=hcol
   obtain ⟨s3,h3,hr3⟩:=(hkid m (by simp)).1 (fun e => by rw [e] at hmv; exact absurd hmv (by decide)) hmv s2 0 op _ _ (.inl rfl) hr2 ho.2
   refine ⟨s3,?_,?_⟩
   ·rw [runBs_append _ _ _ _ h1]
    show runBs s1 (58 :: inkL true [m]) = _
    rw [runBs_on h2,show inkL true [m] = inkN m by simp [inkL]]
    exact h3
   ·rw [runS_cons]
    simpa [List.append_assoc] using hr3
theorem brace_reads {n : Nd} (hm : mayN n = 0) (hb : srN badS nextS n .brc = none) : ∃ s1,runBs ⟨mc0,[topP],[]⟩ (inkN n) = some s1 /\ (endB s1).e = 0 /\ (endB s1).b.l = flat n /\ (endB s1).b.st = runS [topP] (flat n):=by
 have hv:=may_value hm
 obtain ⟨s1,h1,h2⟩:=(reads_all n (may_gram hm) hb).1 (fun e => by rw [e] at hv; exact absurd hv (by decide)) hv ⟨mc0,[topP],[]⟩ 0 [] [topP] [] (.inl rfl) ⟨rfl,rfl,rfl,rfl,rfl⟩ (may_shaped hm).2
 obtain ⟨h3,h4,h5⟩:=h2.fin
 exact ⟨s1,h1,h3,by simpa using h4,h5⟩
end Go.Proofs.YtbnppjmmlfncmaaGreatDoor.Br
namespace Go.Proofs.YtbnppjmmlfncmaaGreatDoor
structure MachP where
 σ : Type
 x0 : σ
 stp : σ -> UInt8 -> σ
 ste : σ -> UInt8 -> Int
 fin : σ -> σ
 fne : σ -> Int
 st : σ -> List Pt
 l : σ -> List Ev
 Inv : σ -> Nat -> Prop
 inv0 : Inv x0 0
 inv_step : ∀ {x n} b,Inv x n -> ste x b = 0 -> Inv (stp x b) (n + 2)
 len_step : ∀ {x n} b,Inv x n -> (l (stp x b)).length <= 2 * (n + 2)
 inv_mono : ∀ {x n k},Inv x n -> n <= k -> Inv x k
 inv_len : ∀ {x n},Inv x n -> (l x).length <= 2 * n
section
variable (M : MachP)
structure Ss where
 b : M.σ
 sl : Int
 slo : Int
 shi : Int
 e : Int
 rd : Nat
def ss0 : Ss M:=⟨M.x0,0,128,191,0,0⟩
variable {M}
def feed1 (x : Ss M) (c : UInt8) : Ss M :=
 if x.e ≠ 0 then x
 else if stOk x.sl x.slo x.shi (c.toNat : Int) = true then
  ⟨M.stp x.b c,stL x.sl (c.toNat : Int),stLo x.sl (c.toNat : Int),stHi x.sl (c.toNat : Int),M.ste x.b c,if M.ste x.b c = 0 then x.rd + 1 else x.rd⟩
 else { x with e:=3 }
def feedG (x : Ss M) (l : List UInt8) : Ss M:=l.foldl feed1 x
theorem feedG_cons (x : Ss M) (c : UInt8) (l : List UInt8) : feedG x (c :: l) = feedG (feed1 x c) l:=rfl
theorem feed1_stop {x : Ss M} (h : x.e ≠ 0) (c : UInt8) : feed1 x c = x:=by unfold feed1; rw [if_pos h]
theorem feedG_stop {x : Ss M} (h : x.e ≠ 0) : ∀ l,feedG x l = x
 | [] => rfl
 | c :: l => by rw [feedG_cons,feed1_stop h]; exact feedG_stop h l
structure SInv (x : Ss M) (k : Nat) : Prop where
 b : x.e = 0 -> M.Inv x.b (2 * k)
 ln : (M.l x.b).length <= 2 * (2 * k)
 rd : x.rd <= k
 sl : 0 <= x.sl /\ x.sl <= 3
theorem sinv_feed1 {x : Ss M} {k : Nat} (h : SInv x k) (c : UInt8) : SInv (feed1 x c) (k + 1):=by
 unfold feed1
 split
 ·rename_i he
  exact ⟨fun e => absurd e he,by have:=h.ln; omega,by have:=h.rd; omega,h.sl⟩
 ·rename_i he
  have he' : x.e = 0:=by simpa using he
  split
  ·exact ⟨fun e => M.inv_step c (h.b he') e,M.len_step c (h.b he'),by have:=h.rd; simp only; split <;> omega,stL_range h.sl.1 h.sl.2⟩
  ·exact ⟨fun e => absurd (show (3 : Int) = 0 from e) (by decide),by have:=h.ln; simp only; omega,by have:=h.rd; simp only; omega,h.sl⟩
theorem sinv0 : SInv (ss0 M) 0:=⟨fun _ => M.inv0,M.inv_len M.inv0,by simp [ss0],by simp [ss0]⟩
theorem sinv_feedG : ∀ (l : List UInt8) (x : Ss M) (k : Nat),SInv x k -> SInv (feedG x l) (k + l.length)
 | [],_,_,h => h
 | c :: l,x,k,h => by
  have:=sinv_feedG l (feed1 x c) (k + 1) (sinv_feed1 h c)
  rw [feedG_cons,List.length_cons]
  rwa [show k + (l.length + 1) = k + 1 + l.length from by omega]
def sendE (x : Ss M) : Int:=if x.sl = 0 then M.fne x.b else 3
def endBs (x : Ss M) : M.σ:=if x.sl = 0 then M.fin x.b else x.b
def closeE (x : Ss M) : Int:=if x.e ≠ 0 then x.e else sendE x
def closeBs (x : Ss M) : M.σ:=if x.e ≠ 0 then x.b else endBs x
end
end Go.Proofs.YtbnppjmmlfncmaaGreatDoor
