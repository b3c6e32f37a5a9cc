/-
  The value of a number, its normal form, and the order of values, as plain functions.
  The events of documents as plain functions: which events are allowed, the machine of what is open, its run. No program is read here.
  Where one stands behind some events, looked at from their beginning (the reference's At and own) and held against the machine of what is open. No program is read here.
  Whatever could be taken can be gone on with to a document: the machine's part. No program is read here.
-/
import Derived.Test.YtbnppjmmlfncmaaGreatDoorIrA02
import Derived.Lib.TrimByte
import Derived.Lib.ItoaNum
import Derived.Lib.ItoaLen
import Derived.Lib.AtoiAll
import Derived.Lib.Small
namespace Go.Proofs.YtbnppjmmlfncmaaGreatDoor.Nm
def decStep (acc : Nat) (b : UInt8) : Nat:=10 * acc + (b.toNat - 48)
def decN (acc : Nat) (l : List UInt8) : Nat:=l.foldl decStep acc
def B40 : Nat:=1099511627776
def satStep (acc : Nat) (b : UInt8) : Nat:=if dig b = true /\ acc < B40 then 10 * acc + (b.toNat - 48) else acc
def satN (acc : Nat) : List UInt8 -> Nat
 | [] => acc
 | b :: l => satN (satStep acc b) l
theorem satStep_yes {acc : Nat} {b : UInt8} (h : dig b = true) (h2 : acc < B40) : satStep acc b = 10 * acc + (b.toNat - 48):=if_pos ⟨h,h2⟩
theorem satStep_no {acc : Nat} {b : UInt8} (h : ¬ (dig b = true /\ acc < B40)) : satStep acc b = acc:=if_neg h
theorem decN_nil (acc : Nat) : decN acc [] = acc:=by unfold decN; rw [List.foldl_nil]
theorem decN_cons (acc : Nat) (b : UInt8) (l : List UInt8) : decN acc (b :: l) = decN (10 * acc + (b.toNat - 48)) l:=by unfold decN; rw [List.foldl_cons,decStep]
theorem satN_yes {acc : Nat} {b : UInt8} (h : dig b = true) (h2 : acc < B40) (l : List UInt8) : satN acc (b :: l) = satN (10 * acc + (b.toNat - 48)) l:=by rw [satN,satStep_yes h h2]
theorem satN_no {acc : Nat} {b : UInt8} (h : ¬ (dig b = true /\ acc < B40)) (l : List UInt8) : satN acc (b :: l) = satN acc l:=by rw [satN,satStep_no h]
theorem decN_ge (l : List UInt8) (acc : Nat) : acc <= decN acc l:=by
 induction l generalizing acc with
 | nil => rw [decN_nil]; exact Nat.le_refl _
 | cons b l ih => rw [decN_cons]; exact Nat.le_trans (by omega) (ih _)
theorem satN_big (l : List UInt8) (acc : Nat) (h : B40 <= acc) : satN acc l = acc:=by
 induction l generalizing acc with
 | nil => rfl
 | cons b l ih => rw [satN_no (fun hc => by have:=hc.2; omega),ih _ h]
theorem satN_cases (l : List UInt8) (hl : l.all dig = true) (acc : Nat) : satN acc l = decN acc l \/ (B40 <= satN acc l /\ B40 <= decN acc l):=by
 induction l generalizing acc with
 | nil => rw [decN_nil]; exact .inl rfl
 | cons b l ih =>
  rw [List.all_cons,Bool.and_eq_true] at hl
  by_cases h : acc < B40
  ·rw [satN_yes hl.1 h,decN_cons]
   exact ih hl.2 _
  ·refine .inr ⟨?_,?_⟩
   ·rw [satN_big _ _ (Nat.le_of_not_lt h)]; exact Nat.le_of_not_lt h
   ·exact Nat.le_trans (Nat.le_of_not_lt h) (decN_ge (b :: l) acc)
theorem parse_dec (l : List UInt8) (hl : l.all dig = true) (acc : Nat) (ha : acc < 18446744073709551616) :
 Lib.parseUint10 acc l = if decN acc l < 18446744073709551616 then .ok (decN acc l) else .range:=by
 induction l generalizing acc with
 | nil => rw [decN_nil,if_pos ha]; rfl
 | cons b l ih =>
  rw [List.all_cons,Bool.and_eq_true,dig_iff] at hl
  have hge:=decN_ge l (10 * acc + (b.toNat - 48))
  have hd:=decN_cons acc b l
  rw [Lib.parseUint10,if_pos hl.1,hd]
  by_cases h1 : 1844674407370955162 <= acc
  ·rw [if_pos h1]
   exact (if_neg (by omega)).symm
  ·rw [if_neg h1]
   by_cases h2 : 18446744073709551616 <= acc * 10 + (b.toNat - 48)
   ·rw [if_pos h2]
    exact (if_neg (by omega)).symm
   ·rw [if_neg h2,show acc * 10 + (b.toNat - 48) = 10 * acc + (b.toNat - 48) from by omega]
    exact ih hl.2 _ (by omega)
def eexp (t : List UInt8) : Int:=if negL t then -(decN 0 (sgn t) : Int) else decN 0 (sgn t)
def esat (t : List UInt8) : Int:=if negL t then -(satN 0 t : Int) else satN 0 t
theorem satN_sgn (t : List UInt8) : satN 0 t = satN 0 (sgn t):=by
 cases t with
 | nil => rfl
 | cons b l =>
  unfold sgn
  by_cases h : isPM b = true
  ·have hd : dig b = false:=by unfold isPM at h; rw [dig_not]; have:=of_decide_eq_true h; omega
   simp only [h,if_true]
   rw [satN_no (by rw [hd]; simp)]
  ·simp only [h]
   rfl
def clampI (n : Int) : Int:=max (-2058) (min n 2058)
def endI (e : Lib.NumEnd Int) (sat : Int) : Int:=match e with | .ok v => v | .range => sat | _ => 0
def atoiI (t : List UInt8) : Int:=endI (Lib.atoiAll t) (Lib.atoiSat t)
theorem isPM_iff (b : UInt8) : isPM b = true ↔ b.toNat = 43 \/ b.toNat = 45:=by unfold isPM; simp
theorem atoi_tail (t : List UInt8) (h1 : sgn t ≠ []) (h2 : (sgn t).all dig = true) : (Lib.atoiAll t = .range \/ ∃ v,Lib.atoiAll t = .ok v) /\ clampI (atoiI t) = clampI (eexp t):=by
 cases t with
 | nil => exact absurd rfl h1
 | cons c r =>
  have e1 : (if c.toNat = 43 \/ c.toNat = 45 then r else c :: r) = sgn (c :: r):=by
   simp only [sgn]
   by_cases h : c.toNat = 43 \/ c.toNat = 45
   ·rw [if_pos h,if_pos ((isPM_iff c).2 h)]
   ·rw [if_neg h,if_neg (fun hc => h ((isPM_iff c).1 hc))]
  have e2 : Lib.parseMag (sgn (c :: r)) = if decN 0 (sgn (c :: r)) < 18446744073709551616 then .ok (decN 0 (sgn (c :: r))) else .range:=by
   unfold Lib.parseMag
   rw [if_neg h1,parse_dec _ h2 0 (by omega)]
  have e3 : negL (c :: r) = decide (c.toNat = 45):=rfl
  have e4 : Lib.atoiSat (c :: r) = if c.toNat = 45 then -9223372036854775808 else 9223372036854775807:=by
   unfold Lib.atoiSat
   simp
  unfold atoiI eexp
  rw [e3,e4]
  simp only [Lib.atoiAll,e1,e2]
  generalize decN 0 (sgn (c :: r)) = n
  by_cases hn : n < 18446744073709551616
  ·rw [if_pos hn]
   simp only [decide_eq_true_eq]
   by_cases hc : c.toNat = 45
   ·simp only [hc,not_true_eq_false,false_and,if_false,true_and,if_true]
    by_cases hb : 9223372036854775808 < n
    ·rw [if_pos hb]
     refine ⟨.inl rfl,?_⟩
     unfold clampI endI; simp only []; omega
    ·rw [if_neg hb]; exact ⟨.inr ⟨_,rfl⟩,rfl⟩
   ·simp only [hc,not_false_eq_true,true_and,false_and,if_false]
    by_cases hb : 9223372036854775808 <= n
    ·rw [if_pos hb]
     refine ⟨.inl rfl,?_⟩
     unfold clampI endI; simp only []; omega
    ·rw [if_neg hb]; exact ⟨.inr ⟨_,rfl⟩,rfl⟩
  ·rw [if_neg hn]
   refine ⟨.inl rfl,?_⟩
   simp only [decide_eq_true_eq]
   unfold clampI endI
   simp only []
   split <;> omega
def Near (e e' : Int) : Prop:=e' = e \/ (1100 < e /\ 1100 < e') \/ (e < -1100 /\ e' < -1100)
theorem near_clamp (e : Int) : Near e (clampI e):=by unfold Near clampI; omega
theorem near_sat (t : List UInt8) (h2 : (sgn t).all dig = true) : Near (eexp t) (esat t):=by
 unfold eexp esat
 rw [satN_sgn]
 have:=satN_cases (sgn t) h2 0
 unfold B40 at this
 unfold Near
 split <;> omega
theorem near_atoi (t : List UInt8) (h1 : sgn t ≠ []) (h2 : (sgn t).all dig = true) : Near (eexp t) (clampI (atoiI t)):=by
 rw [(atoi_tail t h1 h2).2]
 exact near_clamp _
structure Val where
 neg : Bool
 digs : List UInt8
 pow : Int
 deriving DecidableEq
def allD (l : List UInt8) : List UInt8:=(parts l).whole ++ (parts l).part
def rightD (l : List UInt8) : List UInt8:=Lib.trimRightB (allD l) 48
def digsD (l : List UInt8) : List UInt8:=Lib.trimLeftB (rightD l) 48
def powD (l : List UInt8) (e : Int) : Int:=e + ((allD l).length : Int) - (rightD l).length - (parts l).part.length
def valE (l : List UInt8) (e : Int) : Val:=if digsD l = [] then ⟨false,[],0⟩ else ⟨negL l,digsD l,powD l e⟩
def tailI (p : Int) : List UInt8:=if p = 0 then [] else 101 :: Lib.itoa p
def formL (v : Val) : List UInt8:=if v.digs = [] then [48] else (if v.neg then [45] else []) ++ v.digs ++ tailI v.pow
def okV (v : Val) : Bool:=decide (-999 <= v.pow /\ v.pow <= 999 /\ (formL v).length <= 30)
def readE (l : List UInt8) (e : Int) : Option Val:=if isB l = true /\ l.length <= 30 then (if okV (valE l e) then some (valE l e) else none) else none
def readL (l : List UInt8) : Option Val:=readE l (eexp (parts l).tail)
theorem unsigned_len (l : List UInt8) : (unsigned l).length <= l.length:=by unfold unsigned; split <;> simp
theorem tw_dw (l : List UInt8) : (l.takeWhile dig).length + (l.dropWhile dig).length = l.length:=by
 rw [<- List.length_append,List.takeWhile_append_dropWhile]
theorem partsX_len (W F r : List UInt8) : ((partsX W F r).whole.length + (partsX W F r).part.length) <= W.length + F.length:=by
 cases r with
 | nil => simp [partsX,noParts]
 | cons c x =>
  simp only [partsX]
  by_cases h : isE c = true
  ·rw [if_pos h]
   unfold partsE
   split
   ·exact Nat.le_refl _
   ·simp [noParts]
  ·rw [if_neg h]; simp [noParts]
theorem partsW_len (W r : List UInt8) : ((partsW W r).whole.length + (partsW W r).part.length) <= W.length + r.length:=by
 cases r with
 | nil => simp [partsW]
 | cons c r =>
  simp only [partsW]
  by_cases h : c.toNat = 46
  ·rw [if_pos h]
   unfold partsF
   have:=tw_dw r
   split
   ·simp; omega
   ·split
    ·simp [noParts]
    ·refine Nat.le_trans (partsX_len _ _ _) ?_
     simp; omega
  ·rw [if_neg h]
   refine Nat.le_trans (partsX_len _ _ _) ?_
   simp
theorem parts_len (l : List UInt8) : ((parts l).whole.length + (parts l).part.length) <= l.length:=by
 unfold parts partsU
 have:=unsigned_len l
 split
 ·simp [noParts]
 ·split
  ·simp [noParts]
  ·have h1:=tw_dw (unsigned l)
   exact Nat.le_trans (partsW_len _ _) (by omega)
theorem trimR_len (l : List UInt8) (c : UInt8) : (Lib.trimRightB l c).length <= l.length:=by
 unfold Lib.trimRightB
 rw [List.length_reverse]
 exact Nat.le_trans (List.dropWhile_suffix _).sublist.length_le (by simp)
theorem trimL_len (l : List UInt8) (c : UInt8) : (Lib.trimLeftB l c).length <= l.length:=(List.dropWhile_suffix _).sublist.length_le
theorem readE_near (l : List UInt8) (e e' : Int) (h : Near e e') : readE l e' = readE l e:=by
 unfold readE
 by_cases hl : isB l = true /\ l.length <= 30
 ·rw [if_pos hl,if_pos hl]
  rcases h with h | h
  ·rw [h]
  ·have h1:=parts_len l
   have h2:=trimR_len (allD l) 48
   have h3 : (allD l).length = (parts l).whole.length + (parts l).part.length:=by unfold allD; simp
   by_cases hd : digsD l = []
   ·unfold valE; rw [if_pos hd,if_pos hd]
   ·have hk : ∀ x : Int,(1100 < x \/ x < -1100) -> okV (valE l x) = false:=by
     intro x hx
     unfold okV valE
     rw [if_neg hd]
     refine decide_eq_false ?_
     simp only [powD]
     unfold rightD
     omega
    rw [hk e (by omega),hk e' (by omega)]
    rfl
 ·rw [if_neg hl,if_neg hl]
def sgI (v : Val) : Int:=if v.digs = [] then 0 else if v.neg then -1 else 1
def CanV (v : Val) : Prop:=(v.digs = [] -> v.neg = false /\ v.pow = 0) /\ v.digs.head? ≠ some 48 /\ v.digs.getLast? ≠ some 48 /\ v.digs.all dig = true
end Go.Proofs.YtbnppjmmlfncmaaGreatDoor.Nm
namespace Go.Proofs.YtbnppjmmlfncmaaGreatDoor
structure Ev where
 k : Int
 t : ByteArray
 v : ByteArray
structure Pt where
 kind : Int
 last : Int
 keys : List (List UInt8)
def topP : Pt:=⟨0,0,[]⟩
def validL (l : List UInt8) : Bool:=decide (l.length <= 48) && (runesL l).isSome
def normL (l : List UInt8) : Bool:=match Nm.readL l with | some v => decide (Nm.formL v = l) | none => false
def bareK (k : Int) : Bool:=decide (k = 1 \/ k = 5 \/ k = 6 \/ k = 7 \/ k = 9 \/ k = 12)
def opensK (k : Int) : Bool:=decide (k = 5 \/ k = 7 \/ k = 10)
def endsK (k : Int) : Bool:=decide (k = 6 \/ k = 9 \/ k = 12)
def valueK (k : Int) : Bool:=decide (k = 1 \/ k = 2 \/ k = 3 \/ k = 4 \/ k = 5 \/ k = 7 \/ k = 10)
def emptyT (s : ByteArray) : Bool:=decide (s.data.toList = [])
def fullL (l : List UInt8) : Bool:=(cutL l).isSome
def boolL (l : List UInt8) : Bool:=decide (l = [116,114,117,101]) || decide (l = [102,97,108,115,101])
def formedB (x : Ev) : Bool :=
 if bareK x.k then emptyT x.t && emptyT x.v
 else if x.k = 2 then emptyT x.v && boolL x.t.data.toList
 else if x.k = 3 then emptyT x.v && normL x.t.data.toList
 else if x.k = 4 \/ x.k = 8 then emptyT x.v && validL x.t.data.toList
 else if x.k = 10 then emptyT x.v && fullL x.t.data.toList
 else if x.k = 11 then validL x.v.data.toList && fullL x.t.data.toList
 else false
def contElem (last k : Int) (te : Bool) : Bool :=
 if k = 11 then decide (last = 0 \/ last = 11) else if k = 4 then decide (last ≠ 4) && !te else decide (k = 10 \/ k = 12)
def contB (kind last k : Int) (te : Bool) : Bool :=
 if kind = 5 then valueK k || decide (k = 6)
 else if kind = 7 then (if last = 8 then valueK k else decide (k = 8 \/ k = 9))
 else if kind = 10 then contElem last k te
 else decide (last = 0) && valueK k
def stepE : List Pt -> Ev -> Int
 | [],_ => 19
 | p :: r,x =>
  if formedB x = false \/ contB p.kind p.last x.k (emptyT x.t) = false then 19
  else if endsK x.k then 0
  else if opensK x.k then (if 6 <= r.length then 5 else 0)
  else if x.k = 8 \/ x.k = 11 then (if x.t.data.toList ∈ p.keys then 6 else if 10 <= p.keys.length then 7 else 0)
  else 0
def goS : List Pt -> Ev -> List Pt
 | [],_ => []
 | p :: r,x =>
  if endsK x.k then r
  else if opensK x.k then ⟨x.k,0,[]⟩ :: { p with last:=x.k } :: r
  else if x.k = 8 \/ x.k = 11 then { p with last:=x.k,keys:=x.t.data.toList :: p.keys } :: r
  else { p with last:=x.k } :: r
def stepS (st : List Pt) (x : Ev) : List Pt:=if stepE st x = 0 then goS st x else st
def doneB : List Pt -> Bool
 | [p] => decide (p.last ≠ 0)
 | _ => false
def Outer : List Pt -> Prop
 | [] => False
 | [p] => p.kind = 0 /\ p.keys = [] /\ (p.last = 0 \/ valueK p.last = true)
 | p :: q :: r => opensK p.kind = true /\ opensK q.last = true /\ Outer (q :: r)
def Good (st : List Pt) : Prop:=Outer st /\ st.length <= 7
theorem good_start : Good [topP]:=⟨⟨rfl,rfl,.inl rfl⟩,by simp⟩
theorem Good.ne {st : List Pt} (h : Good st) : ∃ p r,st = p :: r:=by
 cases st with
 | nil => exact h.1.elim
 | cons p r => exact ⟨p,r,rfl⟩
theorem opens_value {k : Int} (h : opensK k = true) : valueK k = true:=by
 unfold opensK at h; unfold valueK; rw [decide_eq_true_iff] at h ⊢; omega
theorem outer_last {p : Pt} {r : List Pt} (h : Outer (p :: r)) (k : Int) (hk : r ≠ [] \/ valueK k = true) (ks : List (List UInt8)) (hks : r ≠ [] \/ ks = []) : Outer ({ p with last:=k,keys:=ks } :: r):=by
 cases r with
 | nil =>
  rcases hk with hk | hk
  ·exact absurd rfl hk
  ·rcases hks with hks | hks
   ·exact absurd rfl hks
   ·exact ⟨h.1,hks,.inr hk⟩
 | cons q r => exact ⟨h.1,h.2.1,h.2.2⟩
theorem outer_last' {p : Pt} {r : List Pt} (h : Outer (p :: r)) (k : Int) (hk : r ≠ [] \/ valueK k = true) : Outer ({ p with last:=k } :: r):=by
 cases r with
 | nil =>
  rcases hk with hk | hk
  ·exact absurd rfl hk
  ·exact ⟨h.1,h.2.1,.inr hk⟩
 | cons q r => exact ⟨h.1,h.2.1,h.2.2⟩
theorem top_cont {p : Pt} (h : Outer [p]) {k : Int} {te : Bool} (hc : contB p.kind p.last k te = true) : p.last = 0 /\ valueK k = true:=by
 unfold contB at hc
 rw [h.1,if_neg (by decide),if_neg (by decide),if_neg (by decide),Bool.and_eq_true,decide_eq_true_iff] at hc
 exact hc
theorem cont_of {p : Pt} {r : List Pt} {x : Ev} (h : stepE (p :: r) x = 0) : formedB x = true /\ contB p.kind p.last x.k (emptyT x.t) = true:=by
 simp only [stepE] at h
 split at h
 ·exact absurd h (by decide)
 ·rename_i hn
  rw [not_or,Bool.not_eq_false,Bool.not_eq_false] at hn
  exact hn
theorem ends_not_value {k : Int} (h : endsK k = true) : valueK k = false:=by
 unfold endsK at h; unfold valueK; rw [decide_eq_true_iff] at h; rw [decide_eq_false_iff_not]; omega
theorem depth_of {p : Pt} {r : List Pt} {x : Ev} (h : stepE (p :: r) x = 0) (ho : opensK x.k = true) : r.length < 6:=by
 have hc:=cont_of h
 simp only [stepE] at h
 rw [if_neg (by rw [hc.1,hc.2]; decide),if_neg (by unfold opensK at ho; unfold endsK; rw [decide_eq_true_iff] at ho ⊢; omega),if_pos ho] at h
 split at h
 ·exact absurd h (by decide)
 ·omega
theorem good_step {st : List Pt} (hg : Good st) (x : Ev) : Good (stepS st x):=by
 unfold stepS
 by_cases h : stepE st x = 0
 ·rw [if_pos h]
  obtain ⟨p,r,rfl⟩:=hg.ne
  obtain ⟨hf,hc⟩:=cont_of h
  obtain ⟨ho,hl⟩:=hg
  have hl' : r.length <= 6:=by simpa using hl
  simp only [goS]
  by_cases h1 : endsK x.k = true
  ·rw [if_pos h1]
   cases r with
   | nil =>
    have:=(top_cont ho hc).2
    rw [ends_not_value h1] at this
    cases this
   | cons q r => exact ⟨ho.2.2,by simp at hl' ⊢; omega⟩
  ·rw [if_neg h1]
   by_cases h2 : opensK x.k = true
   ·rw [if_pos h2]
    exact ⟨⟨h2,h2,outer_last' ho _ (.inr (opens_value h2))⟩,by have:=depth_of h h2; simp; omega⟩
   ·rw [if_neg h2]
    by_cases h3 : x.k = 8 \/ x.k = 11
    ·rw [if_pos h3]
     have hr : r ≠ []:=by
      rintro rfl
      have:=(top_cont ho hc).2
      unfold valueK at this
      rw [decide_eq_true_iff] at this
      omega
     exact ⟨outer_last ho _ (.inl hr) _ (.inl hr),hl⟩
    ·rw [if_neg h3]
     refine ⟨outer_last' ho _ ?_,hl⟩
     by_cases hr : r = []
     ·subst hr; exact .inr (top_cont ho hc).2
     ·exact .inl hr
 ·rw [if_neg h]
  exact hg
def runS (st : List Pt) (l : List Ev) : List Pt:=l.foldl stepS st
def allOk : List Pt -> List Ev -> Prop
 | _,[] => True
 | st,x :: l => stepE st x = 0 /\ allOk (stepS st x) l
def wholeGo (i : Nat) (st : List Pt) : List Ev -> Nat × Int
 | [] => (i,if doneB st then 0 else 19)
 | x :: l => if stepE st x = 0 then wholeGo (i + 1) (stepS st x) l else (i,stepE st x)
theorem runS_snoc (st : List Pt) (l : List Ev) (x : Ev) : runS st (l ++ [x]) = stepS (runS st l) x:=by simp [runS]
theorem good_run {st : List Pt} (h : Good st) (l : List Ev) : Good (runS st l):=by
 induction l generalizing st with
 | nil => exact h
 | cons x l ih => exact ih (good_step h x)
theorem allOk_snoc : ∀ (st : List Pt) (l : List Ev) (x : Ev),allOk st (l ++ [x]) ↔ allOk st l /\ stepE (runS st l) x = 0
 | st,[],x => by simp [allOk,runS]
 | st,y :: l,x => by
  have:=allOk_snoc (stepS st y) l x
  simp only [List.cons_append,allOk,this,and_assoc]
  rfl
theorem whole_run : ∀ (i : Nat) (st : List Pt) (l m : List Ev),allOk st l -> wholeGo i st (l ++ m) = wholeGo (i + l.length) (runS st l) m
 | i,st,[],m,_ => rfl
 | i,st,x :: l,m,h => by
  have:=whole_run (i + 1) (stepS st x) l m h.2
  simp only [List.cons_append,wholeGo,if_pos h.1,this,List.length_cons]
  congr 1
  omega
theorem whole_of {l : List Ev} (h : allOk [topP] l) : wholeGo 0 [topP] l = (l.length,if doneB (runS [topP] l) then 0 else 19):=by
 have:=whole_run 0 [topP] l [] h
 rw [List.append_nil] at this
 rw [this]
 simp [wholeGo]
def atStep (S : List Nat) (i : Nat) (k : Int) : List Nat:=if opensK k then i :: S else if endsK k then S.tail else S
def atGo : Nat -> List Nat -> List Ev -> List Nat
 | _,S,[] => S
 | i,S,x :: l => atGo (i + 1) (atStep S i x.k) l
def atL (l : List Ev) : List Nat:=atGo 0 [] l
theorem atGo_snoc (l : List Ev) (x : Ev) : ∀ (i : Nat) (S : List Nat),atGo i S (l ++ [x]) = atStep (atGo i S l) (i + l.length) x.k:=by
 induction l with
 | nil => intro i S; rfl
 | cons y l ih => intro i S; simp only [List.cons_append,atGo,ih,List.length_cons]; congr 1; omega
theorem atL_snoc (l : List Ev) (x : Ev) : atL (l ++ [x]) = atStep (atL l) l.length x.k:=by
 unfold atL; rw [atGo_snoc]; simp
theorem atL_take (l : List Ev) (k : Nat) (h : k < l.length) : atL (l.take (k + 1)) = atStep (atL (l.take k)) k (l[k]).k:=by
 rw [List.take_succ_eq_append_getElem h,atL_snoc,List.length_take,Nat.min_eq_left (by omega)]
theorem atL_len (l : List Ev) : (atL l).length <= l.length:=by
 have key : ∀ (l : List Ev) (i : Nat) (S : List Nat),(atGo i S l).length <= S.length + l.length:=by
  intro l
  induction l with
  | nil => intro i S; simp [atGo]
  | cons x l ih =>
   intro i S
   have:=ih (i + 1) (atStep S i x.k)
   have h2 : (atStep S i x.k).length <= S.length + 1:=by unfold atStep; repeat' split
                                                         all_goals simp; try omega
   simp only [atGo,List.length_cons]; omega
 have:=key l 0 []
 simp only [List.length_nil] at this
 unfold atL
 omega
def ownStep (s : Int × List Nat) (i : Nat) (k : Int) : Int × List Nat :=
 if endsK k then (s.1 - 1,s.2) else (if opensK k then s.1 + 1 else s.1,if s.1 = 0 then s.2 ++ [i] else s.2)
def ownGo : Nat -> Int × List Nat -> List Ev -> Int × List Nat
 | _,s,[] => s
 | i,s,x :: l => ownGo (i + 1) (ownStep s i x.k) l
def ownP (l : List Ev) (at' : Nat) : Int × List Nat:=ownGo (at' + 1) (0,[]) (l.drop (at' + 1))
def ownL (l : List Ev) (at' : Nat) : List Nat:=(ownP l at').2
theorem ownGo_snoc (l : List Ev) (x : Ev) : ∀ (i : Nat) (s : Int × List Nat),ownGo i s (l ++ [x]) = ownStep (ownGo i s l) (i + l.length) x.k:=by
 induction l with
 | nil => intro i s; rfl
 | cons y l ih => intro i s; simp only [List.cons_append,ownGo,ih,List.length_cons]; congr 1; omega
theorem ownP_snoc (l : List Ev) (x : Ev) (p : Nat) (h : p < l.length) : ownP (l ++ [x]) p = ownStep (ownP l p) l.length x.k:=by
 unfold ownP
 rw [List.drop_append_of_le_length (by omega),ownGo_snoc]
 congr 1
 rw [List.length_drop]; omega
def ownT (l : List Ev) (p k : Nat) : Int × List Nat:=ownGo (p + 1) (0,[]) ((l.take k).drop (p + 1))
theorem ownT_start (l : List Ev) (p : Nat) : ownT l p (p + 1) = (0,[]):=by
 unfold ownT
 rw [List.drop_of_length_le (by simp; omega)]
 rfl
theorem ownT_end (l : List Ev) (p k : Nat) (h : l.length <= k) : ownT l p k = ownP l p:=by
 unfold ownT ownP
 rw [List.take_of_length_le h]
theorem ownT_step (l : List Ev) (p k : Nat) (h1 : p + 1 <= k) (h : k < l.length) : ownT l p (k + 1) = ownStep (ownT l p k) k (l[k]).k:=by
 unfold ownT
 rw [List.take_succ_eq_append_getElem h,List.drop_append_of_le_length (by simp; omega),ownGo_snoc]
 congr 1
 rw [List.length_drop,List.length_take]; omega
theorem own_inv : ∀ (l : List Ev) (i : Nat) (s : Int × List Nat) (B : Nat),(∀ p ∈ s.2,p < B) -> s.2.length <= i -> i + l.length <= B -> (∀ p ∈ (ownGo i s l).2,p < B) /\ (ownGo i s l).2.length <= i + l.length:=by
 intro l
 induction l with
 | nil => intro i s B h1 h2 _; exact ⟨h1,by simp only [ownGo,List.length_nil]; omega⟩
 | cons x l ih =>
  intro i s B h1 h2 h3
  simp only [List.length_cons] at h3 ⊢
  have:=ih (i + 1) (ownStep s i x.k) B (by
   intro p hp
   unfold ownStep at hp
   split at hp
   ·exact h1 p hp
   ·simp only at hp
    split at hp
    ·rcases List.mem_append.1 hp with hp | hp
     ·exact h1 p hp
     ·have:=List.mem_singleton.1 hp; omega
    ·exact h1 p hp) (by
   unfold ownStep
   split
   ·simp only; omega
   ·simp only
    split
    ·simp; omega
    ·omega) (by omega)
  exact ⟨this.1,by have:=this.2; simp only [ownGo]; omega⟩
theorem ownT_lt (l : List Ev) (p k : Nat) (hp : p + 1 <= k) (hk : k <= l.length) : (∀ q ∈ (ownT l p k).2,q < l.length) /\ (ownT l p k).2.length <= l.length:=by
 have h : p + 1 + ((l.take k).drop (p + 1)).length <= l.length:=by rw [List.length_drop,List.length_take]; omega
 have:=own_inv ((l.take k).drop (p + 1)) (p + 1) (0,[]) l.length (fun _ h => by cases h) (by simp) h
 exact ⟨this.1,by have h2:=this.2; unfold ownT; omega⟩
theorem ownT_deep (l : List Ev) (p k : Nat) (hk : k <= l.length) : -(l.length : Int) <= (ownT l p k).1 /\ (ownT l p k).1 <= l.length:=by
 have key : ∀ (l : List Ev) (i : Nat) (s : Int × List Nat),s.1 - l.length <= (ownGo i s l).1 /\ (ownGo i s l).1 <= s.1 + l.length:=by
  intro l
  induction l with
  | nil => intro i s; simp [ownGo]
  | cons x l ih =>
   intro i s
   have:=ih (i + 1) (ownStep s i x.k)
   have h2 : s.1 - 1 <= (ownStep s i x.k).1 /\ (ownStep s i x.k).1 <= s.1 + 1:=by
    unfold ownStep; repeat' split
    all_goals simp only; omega
   simp only [ownGo,List.length_cons]; omega
 have:=key ((l.take k).drop (p + 1)) (p + 1) (0,[])
 have h2 : ((l.take k).drop (p + 1)).length <= l.length:=by rw [List.length_drop,List.length_take]; omega
 unfold ownT
 simp only at this
 omega
def kindAt (l : List Ev) (i : Nat) : Int:=match l[i]? with | some x => x.k | none => 0
def textAt (l : List Ev) (i : Nat) : List UInt8:=match l[i]? with | some x => x.t.data.toList | none => []
def lastK (l : List Ev) (out : List Nat) : Int:=match out.getLast? with | some i => kindAt l i | none => 0
def keysK (l : List Ev) (k : Int) (out : List Nat) : List (List UInt8):=((out.filter fun i => decide (kindAt l i = k)).map (textAt l)).reverse
def keyK (kind : Int) : Int:=if kind = 7 then 8 else if kind = 10 then 11 else -1
def Inner (l : List Ev) (j : Nat) (pl : Nat) (p : Pt) : Prop :=
 pl < l.length /\ kindAt l pl = p.kind /\ opensK p.kind = true /\ (ownP l pl).1 = (j : Int) /\ lastK l (ownL l pl) = p.last /\ keysK l (keyK p.kind) (ownL l pl) = p.keys /\ ∀ i ∈ ownL l pl,i < l.length
def RelGo (l : List Ev) : Nat -> List Nat -> List Pt -> Prop
 | _,[],[p] => p.kind = 0 /\ p.keys = [] /\ (p.last = 0 ↔ l = [])
 | j,pl :: ps,p :: st => Inner l j pl p /\ RelGo l (j + 1) ps st
 | _,_,_ => False
def Rel (l : List Ev) (st : List Pt) : Prop:=RelGo l 0 (atL l) st
theorem rel_start : Rel [] [topP]:=⟨rfl,rfl,fun _ => rfl,fun _ => rfl⟩
theorem RelGo.len {l : List Ev} : ∀ {j : Nat} {ps : List Nat} {st : List Pt},RelGo l j ps st -> st.length = ps.length + 1
 | _,[],[_],_ => rfl
 | _,[],[],h => h.elim
 | _,[],_ :: _ :: _,h => h.elim
 | _,_ :: _,_ :: _,h => by simp [RelGo.len h.2]
 | _,_ :: _,[],h => h.elim
theorem kindAt_app {l : List Ev} {i : Nat} (x : Ev) (h : i < l.length) : kindAt (l ++ [x]) i = kindAt l i:=by
 unfold kindAt; rw [List.getElem?_append_left h]
theorem textAt_app {l : List Ev} {i : Nat} (x : Ev) (h : i < l.length) : textAt (l ++ [x]) i = textAt l i:=by
 unfold textAt; rw [List.getElem?_append_left h]
theorem kindAt_new (l : List Ev) (x : Ev) : kindAt (l ++ [x]) l.length = x.k:=by
 unfold kindAt; simp
theorem textAt_new (l : List Ev) (x : Ev) : textAt (l ++ [x]) l.length = x.t.data.toList:=by
 unfold textAt; simp
theorem lastK_app {l : List Ev} {out : List Nat} (x : Ev) (h : ∀ i ∈ out,i < l.length) : lastK (l ++ [x]) out = lastK l out:=by
 unfold lastK
 cases hl : out.getLast? with
 | none => rfl
 | some i => exact kindAt_app x (h i (List.mem_of_getLast? hl))
theorem keysK_app {l : List Ev} {out : List Nat} (k : Int) (x : Ev) (h : ∀ i ∈ out,i < l.length) : keysK (l ++ [x]) k out = keysK l k out:=by
 unfold keysK
 congr 1
 rw [List.filter_congr (q:=fun i => decide (kindAt l i = k)) (fun i hi => by rw [kindAt_app x (h i hi)])]
 exact List.map_congr_left fun i hi => textAt_app x (h i ((List.mem_filter.1 hi).1))
theorem lastK_new (l : List Ev) (out : List Nat) (x : Ev) : lastK (l ++ [x]) (out ++ [l.length]) = x.k:=by
 unfold lastK; rw [List.getLast?_append]; simp [kindAt_new]
theorem keysK_new {l : List Ev} {out : List Nat} (k : Int) (x : Ev) (h : ∀ i ∈ out,i < l.length) : keysK (l ++ [x]) k (out ++ [l.length]) = (if x.k = k then [x.t.data.toList] else []) ++ keysK l k out:=by
 rw [<- keysK_app k x h]
 unfold keysK
 rw [List.filter_append]
 by_cases hk : x.k = k
 ·rw [if_pos hk]
  simp [kindAt_new,hk,textAt_new]
 ·rw [if_neg hk]
  simp [kindAt_new,hk]
theorem Inner.far {l : List Ev} {j pl : Nat} {p : Pt} (h : Inner l j pl p) (hj : 0 < j) (x : Ev) {j' : Nat} (hj' : (j' : Int) = (ownStep (j,[]) 0 x.k).1) : Inner (l ++ [x]) j' pl p:=by
 obtain ⟨h1,h2,h3,h4,h5,h6,h7⟩:=h
 have e:=ownP_snoc l x pl h1
 have ho : ownL (l ++ [x]) pl = ownL l pl:=by
  unfold ownL
  rw [e]
  unfold ownStep
  rw [h4]
  split
  ·rfl
  ·simp only
   rw [if_neg (by omega)]
 refine ⟨by simp; omega,by rw [kindAt_app x h1]; exact h2,h3,?_,?_,?_,?_⟩
 ·rw [e,hj']
  unfold ownStep
  rw [h4]
  split <;> rfl
 ·rw [ho,lastK_app x h7]; exact h5
 ·rw [ho,keysK_app _ x h7]; exact h6
 ·rw [ho]; intro i hi; have:=h7 i hi; simp; omega
theorem RelGo.far {l : List Ev} (x : Ev) (hl : l ≠ []) : ∀ {j : Nat} {ps : List Nat} {st : List Pt},RelGo l j ps st -> 0 < j -> ∀ {j' : Nat},(j' : Int) = (ownStep (j,[]) 0 x.k).1 -> RelGo (l ++ [x]) j' ps st
 | _,[],[_],h,_,_,_ => ⟨h.1,h.2.1,by simp [h.2.2,hl]⟩
 | _,[],[],h,_,_,_ => h.elim
 | _,[],_ :: _ :: _,h,_,_,_ => h.elim
 | j,_ :: _,_ :: _,h,hj,j',hj' => ⟨h.1.far hj x hj',RelGo.far x hl h.2 (by omega) (by
  unfold ownStep at hj' ⊢
  split at hj'
  ·rename_i he; simp only at hj'; rw [if_pos he]; simp only; omega
  ·rename_i he; simp only at hj'; rw [if_neg he]; simp only
   split at hj'
   ·rename_i ho; rw [if_pos ho]; omega
   ·rename_i ho; rw [if_neg ho]; omega)⟩
 | _,_ :: _,[],h,_,_,_ => h.elim
theorem Inner.near {l : List Ev} {pl : Nat} {p : Pt} (h : Inner l 0 pl p) (x : Ev) (he : endsK x.k = false) {j' : Nat} (hj' : (j' : Int) = if opensK x.k then 1 else 0) (ks : List (List UInt8)) (hks : (if x.k = keyK p.kind then [x.t.data.toList] else []) ++ p.keys = ks) :
 Inner (l ++ [x]) j' pl { p with last:=x.k,keys:=ks }:=by
 obtain ⟨h1,h2,h3,h4,h5,h6,h7⟩:=h
 have e:=ownP_snoc l x pl h1
 have ho : ownL (l ++ [x]) pl = ownL l pl ++ [l.length]:=by
  unfold ownL
  rw [e]
  unfold ownStep
  rw [h4,he,if_neg (by decide)]
  simp only
  rw [if_pos (by rfl)]
 refine ⟨by simp; omega,by rw [kindAt_app x h1]; exact h2,h3,?_,?_,?_,?_⟩
 ·rw [e,hj']
  unfold ownStep
  rw [h4,he,if_neg (by decide)]
  simp only
  split <;> rfl
 ·rw [ho,lastK_new]
 ·rw [ho,keysK_new _ x h7,h6]; exact hks
 ·rw [ho]
  intro i hi
  rcases List.mem_append.1 hi with hi | hi
  ·have:=h7 i hi; simp; omega
  ·have:=List.mem_singleton.1 hi; simp; omega
theorem Inner.fresh (l : List Ev) (x : Ev) (ho : opensK x.k = true) : Inner (l ++ [x]) 0 l.length ⟨x.k,0,[]⟩:=by
 have e : ownP (l ++ [x]) l.length = (0,[]):=by
  unfold ownP; rw [List.drop_of_length_le (by simp)]; rfl
 refine ⟨by simp,kindAt_new l x,ho,by rw [e]; rfl,by unfold ownL; rw [e]; rfl,by unfold ownL; rw [e]; rfl,by unfold ownL; rw [e]; intro i hi; cases hi⟩
theorem rel_ne {l : List Ev} {pl : Nat} {p : Pt} {j : Nat} (h : Inner l j pl p) : l ≠ []:=by
 rintro rfl; exact absurd h.1 (by simp)
theorem opens_not_ends {k : Int} (h : opensK k = true) : endsK k = false:=by
 unfold opensK at h; unfold endsK; rw [decide_eq_true_iff] at h; rw [decide_eq_false_iff_not]; omega
theorem keyK_of {kind : Int} (h : opensK kind = true) {k : Int} (hk : contB kind 0 k true = true \/ contB kind 0 k false = true \/ ∃ last te,contB kind last k te = true) (hn : ¬ (k = 8 \/ k = 11)) : k ≠ keyK kind:=by
 unfold keyK
 unfold opensK at h
 rw [decide_eq_true_iff] at h
 split
 ·omega
 ·split
  ·omega
  ·rcases hk with hk | hk | ⟨last,te,hk⟩ <;>
   ·rename_i h7 h10
    have h5 : kind = 5:=by omega
    unfold contB at hk
    rw [if_pos h5] at hk
    simp only [valueK,Bool.or_eq_true,decide_eq_true_iff] at hk
    omega
theorem keyK_is {kind last k : Int} {te : Bool} (h : opensK kind = true) (hc : contB kind last k te = true) (hk : k = 8 \/ k = 11) : k = keyK kind:=by
 unfold keyK
 unfold opensK at h
 rw [decide_eq_true_iff] at h
 unfold contB at hc
 split
 ·rename_i h7
  rw [if_neg (by omega),if_pos h7] at hc
  split at hc
  ·unfold valueK at hc; rw [decide_eq_true_iff] at hc; omega
  ·rw [decide_eq_true_iff] at hc; omega
 ·rename_i h7
  split
  ·rename_i h10
   rw [if_neg (by omega),if_neg h7,if_pos h10] at hc
   unfold contElem at hc
   split at hc
   ·assumption
   ·split at hc
    ·omega
    ·rw [decide_eq_true_iff] at hc; omega
  ·rw [if_pos (by omega)] at hc
   simp only [valueK,Bool.or_eq_true,decide_eq_true_iff] at hc
   omega
theorem rel_step {l : List Ev} {st : List Pt} (h : Rel l st) (x : Ev) (hx : stepE st x = 0) : Rel (l ++ [x]) (stepS st x):=by
 unfold stepS
 rw [if_pos hx]
 unfold Rel at h ⊢
 rw [atL_snoc]
 match hps : atL l,st,h with
 | [],[p],h =>
  obtain ⟨hf,hc⟩:=cont_of hx
  have hv : p.last = 0 /\ valueK x.k = true:=by
   unfold contB at hc
   rw [h.1,if_neg (by decide),if_neg (by decide),if_neg (by decide),Bool.and_eq_true,decide_eq_true_iff] at hc
   exact hc
  have he : endsK x.k = false:=by
   rw [Bool.eq_false_iff]; intro hc2; rw [ends_not_value hc2] at hv; exact absurd hv.2 (by decide)
  have hx0 : x.k ≠ 0:=by
   intro h0; rw [h0] at hv; exact absurd hv.2 (by decide)
  have h811 : ¬ (x.k = 8 \/ x.k = 11):=by
   have:=hv.2; unfold valueK at this; rw [decide_eq_true_iff] at this; omega
  cases ho : opensK x.k with
  | true =>
   simp only [goS,atStep,he,ho,if_true,if_false,Bool.false_eq_true]
   exact ⟨Inner.fresh l x ho,h.1,h.2.1,by simp [hx0]⟩
  | false =>
   simp only [goS,atStep,he,ho,if_false,Bool.false_eq_true,if_neg h811]
   exact ⟨h.1,h.2.1,by simp [hx0]⟩
 | pl :: ps,p :: st,h =>
  obtain ⟨hI,hR⟩:=h
  obtain ⟨hf,hc⟩:=cont_of hx
  have hl:=rel_ne hI
  have hkd:=hI.2.2.1
  cases he : endsK x.k with
  | true =>
   have hno : opensK x.k = false:=by
    rw [Bool.eq_false_iff]; intro ho; rw [opens_not_ends ho] at he; cases he
   simp only [goS,atStep,he,hno,if_true,if_false,Bool.false_eq_true]
   exact hR.far x hl (by omega) (by simp only [ownStep,he,if_true]; omega)
  | false =>
   cases ho : opensK x.k with
   | true =>
    simp only [goS,atStep,he,ho,if_true,if_false,Bool.false_eq_true]
    have hk : x.k ≠ keyK p.kind:=keyK_of hkd (.inr (.inr ⟨_,_,hc⟩)) (by unfold opensK at ho; rw [decide_eq_true_iff] at ho; omega)
    refine ⟨Inner.fresh l x ho,?_,?_⟩
    ·exact hI.near x he (j':=1) (by rw [if_pos ho]; rfl) p.keys (by rw [if_neg hk]; rfl)
    ·exact hR.far x hl (by omega) (by simp only [ownStep,he,ho,if_true,if_false,Bool.false_eq_true]; omega)
   | false =>
    have hfar : RelGo (l ++ [x]) (0 + 1) ps st:=hR.far x hl (by omega) (by simp only [ownStep,he,ho,if_false,Bool.false_eq_true])
    by_cases h3 : x.k = 8 \/ x.k = 11
    ·simp only [goS,atStep,he,ho,if_false,Bool.false_eq_true,if_pos h3]
     exact ⟨hI.near x he (j':=0) (by rw [ho]; rfl) _ (by rw [if_pos (keyK_is hkd hc h3)]; rfl),hfar⟩
    ·simp only [goS,atStep,he,ho,if_false,Bool.false_eq_true,if_neg h3]
     have hk : x.k ≠ keyK p.kind:=keyK_of hkd (.inr (.inr ⟨_,_,hc⟩)) h3
     exact ⟨hI.near x he (j':=0) (by rw [ho]; rfl) p.keys (by rw [if_neg hk]; rfl),hfar⟩
 | [],[],h => exact h.elim
 | [],_ :: _ :: _,h => exact h.elim
 | _ :: _,[],h => exact h.elim
theorem rel_run : ∀ (l m : List Ev) (st : List Pt),Rel m st -> allOk st l -> Rel (m ++ l) (runS st l)
 | [],m,st,h,_ => by rw [List.append_nil]; exact h
 | x :: l,m,st,h,ha => by
  have:=rel_run l (m ++ [x]) (stepS st x) (rel_step h x ha.1) ha.2
  rw [List.append_assoc] at this
  exact this
theorem rel_done {l : List Ev} {st : List Pt} (h : Rel l st) : doneB st = (decide (atL l = []) && decide (0 < l.length)) /\ st.length = (atL l).length + 1:=by
 refine ⟨?_,h.len⟩
 unfold Rel at h
 match hps : atL l,st,h with
 | [],[p],h =>
  simp only [doneB,decide_true,Bool.true_and]
  by_cases h0 : p.last = 0
  ·rw [h.2.2.1 h0]; simp [h0]
  ·have : l ≠ []:=fun hl => h0 (h.2.2.2 hl)
   have h2 : 0 < l.length:=List.length_pos_iff.2 this
   simp [h0,h2]
 | pl :: ps,p :: q :: st,h => simp [doneB]
 | pl :: ps,[p],h => cases ps <;> exact h.2.elim
 | [],[],h => exact h.elim
 | [],_ :: _ :: _,h => exact h.elim
 | _ :: _,[],h => exact h.elim
def KeySt : List Pt -> Prop
 | p :: _ => p.kind = 7 /\ p.last = 8
 | [] => False
def endE (k : Int) : Ev:=⟨k,⟨#[]⟩,⟨#[]⟩⟩
def endK (kind : Int) : Int:=if kind = 7 then 9 else if kind = 10 then 12 else 6
theorem ends_endK (kind : Int) : endsK (endK kind) = true:=by
 unfold endK
 split
 ·rfl
 ·split <;> rfl
theorem cont_key {kind last : Int} {te : Bool} (h : contB kind last 8 te = true) : kind = 7:=by
 unfold contB at h
 split at h
 ·simp [valueK] at h
 ·split at h
  ·assumption
  ·split at h
   ·simp [contElem] at h
   ·simp [valueK] at h
theorem key_step {st : List Pt} (hg : Good st) {x : Ev} (h : stepE st x = 0) : KeySt (stepS st x) ↔ x.k = 8:=by
 obtain ⟨p,r,rfl⟩:=hg.ne
 obtain ⟨hf,hc⟩:=cont_of h
 unfold stepS
 rw [if_pos h]
 simp only [goS]
 cases he : endsK x.k with
 | true =>
  simp only [if_true]
  have hx : x.k ≠ 8:=by
   unfold endsK at he; rw [decide_eq_true_iff] at he; omega
  cases r with
  | nil => simp [KeySt,hx]
  | cons q r =>
   have:=hg.1.2.1
   unfold opensK at this
   rw [decide_eq_true_iff] at this
   simp only [KeySt]
   omega
 | false =>
  simp only [if_false,Bool.false_eq_true]
  cases ho : opensK x.k with
  | true =>
   simp only [if_true,KeySt]
   unfold opensK at ho
   rw [decide_eq_true_iff] at ho
   omega
  | false =>
   simp only [if_false,Bool.false_eq_true]
   by_cases h3 : x.k = 8 \/ x.k = 11
   ·rw [if_pos h3]
    simp only [KeySt]
    constructor
    ·intro h; exact h.2
    ·intro h8; rw [h8] at hc; exact ⟨cont_key hc,h8⟩
   ·rw [if_neg h3]
    simp only [KeySt]
    omega
def Taken (hs : List Ev) (st : List Pt) : Prop:=allOk [topP] hs /\ runS [topP] hs = st
theorem taken_nil : Taken [] [topP]:=⟨trivial,rfl⟩
theorem Taken.rel {hs : List Ev} {st : List Pt} (h : Taken hs st) : Rel hs st:=by
 have:=rel_run hs [] [topP] rel_start h.1
 rw [h.2,List.nil_append] at this
 exact this
theorem Taken.good {hs : List Ev} {st : List Pt} (h : Taken hs st) : Good st:=by rw [<- h.2]; exact good_run good_start hs
theorem Taken.snoc {hs : List Ev} {st : List Pt} (h : Taken hs st) {x : Ev} (hx : stepE st x = 0) : Taken (hs ++ [x]) (stepS st x) :=
 ⟨(allOk_snoc _ _ _).2 ⟨h.1,by rw [h.2]; exact hx⟩,by rw [runS_snoc,h.2]⟩
theorem Taken.key {hs : List Ev} {st : List Pt} {y : Ev} (h : Taken (hs ++ [y]) st) : KeySt st ↔ y.k = 8:=by
 have ha:=(allOk_snoc _ _ _).1 h.1
 rw [<- h.2,runS_snoc]
 exact key_step (good_run good_start hs) ha.2
end Go.Proofs.YtbnppjmmlfncmaaGreatDoor
