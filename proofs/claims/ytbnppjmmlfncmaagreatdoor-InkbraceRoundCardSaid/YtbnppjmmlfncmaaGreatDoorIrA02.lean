/-
  UTF-8 as plain functions on lists of bytes: the machine of steps, the character at the beginning, and that both say the same. No program is read here.
  Names as plain functions on bytes: local names, namespaces, full names cut and joined. No program is read here.
  Numbers as plain functions: the machine of states, the parts of a text, and that they agree.
-/
import Derived.Lib.Strings
set_option maxRecDepth 8000
namespace Go.Proofs.YtbnppjmmlfncmaaGreatDoor
def mayB (r : Int) : Bool:=decide (0 <= r /\ r <= 1114111 /\ (r < 55296 \/ 57343 < r))
def longI (r : Int) : Int:=if r < 128 then 1 else if r < 2048 then 2 else if r < 65536 then 3 else 4
def payI (b : Int) : Int:=if b < 128 then b else if b < 192 then b % 64 else if b < 224 then b % 32 else if b < 240 then b % 16 else b % 8
def b8 (n : Int) : UInt8:=UInt8.ofNat n.toNat
def putL (r : Int) : List UInt8 :=
 if r < 128 then [b8 r] else if r < 2048 then [b8 (192 + r / 64),b8 (128 + r % 64)]
 else if r < 65536 then [b8 (224 + r / 4096),b8 (128 + r / 64 % 64),b8 (128 + r % 64)]
 else [b8 (240 + r / 262144),b8 (128 + r / 4096 % 64),b8 (128 + r / 64 % 64),b8 (128 + r % 64)]
theorem b8_nat (n : Int) (h0 : 0 <= n) (h1 : n < 256) : ((b8 n).toNat : Int) = n:=by
 unfold b8
 have e1 : (UInt8.ofNat n.toNat).toNat = n.toNat:=UInt8.toNat_ofNat_of_lt' (show n.toNat < 256 by omega)
 rw [e1]; omega
def stOk (l lo hi b : Int) : Bool:=if 0 < l then decide (lo <= b /\ b <= hi) else decide (b < 128 \/ (194 <= b /\ b < 245))
def stL (l b : Int) : Int:=if 0 < l then l - 1 else if b < 128 then 0 else if b < 224 then 1 else if b < 240 then 2 else 3
def stLo (l b : Int) : Int:=if 0 < l then 128 else if b = 224 then 160 else if b = 240 then 144 else 128
def stHi (l b : Int) : Int:=if 0 < l then 191 else if b = 237 then 159 else if b = 244 then 143 else 191
structure Rn where
 l : Int
 lo : Int
 hi : Int
 num : Int
 out : List Int
def rn0 (out : List Int) : Rn:=⟨0,128,191,0,out⟩
def rnStep (s : Rn) (b : Int) : Option Rn :=
 if stOk s.l s.lo s.hi b = true then
  if stL s.l b = 0 then some ⟨stL s.l b,stLo s.l b,stHi s.l b,0,s.out ++ [s.num * 64 + payI b]⟩ else some ⟨stL s.l b,stLo s.l b,stHi s.l b,s.num * 64 + payI b,s.out⟩
 else none
def runesGo : Rn -> List UInt8 -> Option (List Int)
 | s,[] => if s.l = 0 then some s.out else none
 | s,b :: t => match rnStep s (b.toNat : Int) with
  | none => none
  | some s' => runesGo s' t
def runesL (l : List UInt8) : Option (List Int):=runesGo (rn0 []) l
def RnInv (s : Rn) : Prop:=(s.l = 0 /\ s.num = 0) \/ (1 <= s.l /\ s.l <= 3 /\ 0 <= s.num /\ 128 <= s.lo /\ s.hi <= 191 /\ (s.l = 3 -> s.num < 8) /\ (s.l = 2 -> s.num < 512) /\ (s.l = 1 -> s.num < 32768))
theorem rnInv_step {s s' : Rn} {b : Int} (h : RnInv s) (h0 : 0 <= b) (h1 : b <= 255) (hs : rnStep s b = some s') : RnInv s':=by
 unfold rnStep at hs
 split at hs
 ·rename_i hok
  split at hs <;> rename_i hz <;> cases hs
  ·exact .inl ⟨hz,rfl⟩
  ·right
   simp only
   rcases h with ⟨hl,hn⟩ | ⟨hl,hl3,hn0,hlo,hhi,h3,h2,h1'⟩
   ·simp only [stOk,hl,Int.lt_irrefl,if_false,decide_eq_true_eq] at hok
    simp only [stL,hl,Int.lt_irrefl,if_false] at hz
    simp only [stL,stLo,stHi,hl,Int.lt_irrefl,if_false,hn,payI]
    have hb : ¬ b < 128:=fun hc => hz (if_pos hc)
    simp only [if_neg hb,if_neg (show ¬ b < 192 from by omega)]
    by_cases c1 : b < 224
    ·simp only [if_pos c1,if_neg (show ¬ b = 224 from by omega),if_neg (show ¬ b = 237 from by omega),if_neg (show ¬ b = 240 from by omega),if_neg (show ¬ b = 244 from by omega)]; omega
    by_cases c2 : b < 240
    ·simp only [if_neg c1,if_pos c2,if_neg (show ¬ b = 240 from by omega),if_neg (show ¬ b = 244 from by omega)]
     repeat' split
     all_goals omega
    ·simp only [if_neg c1,if_neg c2,if_neg (show ¬ b = 224 from by omega),if_neg (show ¬ b = 237 from by omega)]
     repeat' split
     all_goals omega
   ·have hp : 0 < s.l:=by omega
    simp only [stOk,hp,if_true,decide_eq_true_eq] at hok
    simp only [stL,stLo,stHi,hp,if_true,payI] at hz ⊢
    rw [if_neg (by omega),if_pos (by omega)]
    omega
 ·cases hs
def tails (v : Int) : List UInt8 -> Option Int
 | [] => some v
 | d :: t => if (d.toNat : Int) < 128 \/ 192 <= (d.toNat : Int) then none else tails (64 * v + d.toNat - 128) t
def leadN (c : Int) : Int:=if 192 <= c /\ c < 224 then 2 else if 224 <= c /\ c < 240 then 3 else if 240 <= c /\ c < 248 then 4 else 0
def leadV (c : Int) : Int:=if 192 <= c /\ c < 224 then c - 192 else if 224 <= c /\ c < 240 then c - 224 else if 240 <= c /\ c < 248 then c - 240 else 0
def oneL : List UInt8 -> Int × Int
 | [] => (0,0)
 | c :: t =>
  if (c.toNat : Int) < 128 then (c.toNat,1)
  else if leadN c.toNat = 0 \/ ((t.length : Int) + 1 < leadN c.toNat) then (0,0)
  else match tails (leadV c.toNat) (t.take (leadN c.toNat - 1).toNat) with
   | none => (0,0)
   | some v => if mayB v = true /\ longI v = leadN c.toNat then (v,leadN c.toNat) else (0,0)
theorem tails_snoc (v : Int) (l : List UInt8) (d : UInt8) : tails v (l ++ [d]) = (tails v l).bind fun u => if (d.toNat : Int) < 128 \/ 192 <= (d.toNat : Int) then none else some (64 * u + d.toNat - 128):=by
 induction l generalizing v with
 | nil => simp [tails]
 | cons e l ih =>
  simp only [List.cons_append,tails]
  split
  ·rfl
  ·exact ih _
theorem tails_none (v : Int) (l m : List UInt8) (h : tails v l = none) : tails v (l ++ m) = none:=by
 induction l generalizing v with
 | nil => simp [tails] at h
 | cons e l ih =>
  simp only [List.cons_append,tails] at h ⊢
  split
  ·rfl
  ·rename_i hb
   rw [if_neg hb] at h
   exact ih _ h
theorem tails_none_take (v : Int) (l : List UInt8) (k m : Nat) (hk : k <= m) (h : tails v (l.take k) = none) : tails v (l.take m) = none:=by
 have e:=List.take_append_drop k (l.take m)
 rw [List.take_take,Nat.min_eq_left hk] at e
 rw [<- e]
 exact tails_none v _ _ h
def oneFin (n : Int) : Option Int -> Int × Int
 | none => (0,0)
 | some v => if mayB v = true /\ longI v = n then (v,n) else (0,0)
theorem byte_le (b : UInt8) : (b.toNat : Int) <= 255:=by have:=b.toNat_lt; omega
theorem rn_tail (l lo hi num : Int) (out : List Int) (d : Int) (hl : 0 < l) (hlo : 128 <= lo) (hhi : hi <= 191) :
 rnStep ⟨l,lo,hi,num,out⟩ d = if lo <= d /\ d <= hi then (if l = 1 then some (rn0 (out ++ [num * 64 + (d - 128)])) else some ⟨l - 1,128,191,num * 64 + (d - 128),out⟩) else none:=by
 unfold rnStep
 simp only [stOk,stL,stLo,stHi,hl,if_true,decide_eq_true_eq]
 by_cases h : lo <= d /\ d <= hi
 ·rw [if_pos h,if_pos h]
  have hp : payI d = d - 128:=by unfold payI; rw [if_neg (by omega),if_pos (by omega)]; omega
  rw [hp]
  by_cases h1 : l = 1
  ·subst h1; rfl
  ·rw [if_neg (by omega),if_neg h1]
 ·rw [if_neg h,if_neg h]
theorem rn_lead0 (out : List Int) (c : Int) (h0 : 0 <= c) (h : c < 128) : rnStep (rn0 out) c = some (rn0 (out ++ [c])):=by
 unfold rnStep rn0
 have a : stOk 0 128 191 c = true:=by simp [stOk]; omega
 have b : stL 0 c = 0:=by simp [stL]; omega
 have d : stLo 0 c = 128:=by simp [stLo]; omega
 have e : stHi 0 c = 191:=by simp [stHi]; omega
 have f : payI c = c:=by simp [payI]; omega
 simp only [a,b,d,e,f,if_true]
 simp
theorem rn_lead (out : List Int) (c : Int) (n : Int) (lo hi v : Int) (h1 : stOk 0 128 191 c = true) (h2 : stL 0 c = n) (hn : n ≠ 0) (h3 : stLo 0 c = lo) (h4 : stHi 0 c = hi) (h5 : payI c = v) : rnStep (rn0 out) c = some ⟨n,lo,hi,v,out⟩:=by
 unfold rnStep rn0
 simp only [h1,h2,h3,h4,h5,if_true,if_neg hn]
 simp
theorem rn_bad (out : List Int) (c : Int) (h : 128 <= c) (h' : c < 194 \/ 245 <= c) : rnStep (rn0 out) c = none:=by
 unfold rnStep rn0
 have a : stOk 0 128 191 c = false:=by simp [stOk]; omega
 simp [a]
def CharStep (out : List Int) (l : List UInt8) : Prop :=
 if (oneL l).2 = 0 then runesGo (rn0 out) l = none
 else 1 <= (oneL l).2 /\ (oneL l).2 <= l.length /\ runesGo (rn0 out) l = runesGo (rn0 (out ++ [(oneL l).1])) (l.drop (oneL l).2.toNat)
theorem charStep_of_none {out : List Int} {l : List UInt8} (h : oneL l = (0,0)) (h' : runesGo (rn0 out) l = none) : CharStep out l:=by
 unfold CharStep; rw [h]; simpa using h'
theorem charStep_of_some {out : List Int} {l : List UInt8} {r n : Int} (h : oneL l = (r,n)) (hn : 1 <= n) (hl : n <= l.length) (h' : runesGo (rn0 out) l = runesGo (rn0 (out ++ [r])) (l.drop n.toNat)) : CharStep out l:=by
 unfold CharStep; rw [h]; simp only; rw [if_neg (by omega)]; exact ⟨hn,hl,h'⟩
theorem char2 (out : List Int) (c : UInt8) (t : List UInt8) (h2 : ¬ (c.toNat : Int) < 192) (h3 : (c.toNat : Int) < 224) : CharStep out (c :: t):=by
 have hc:=byte_le c
 have h1 : ¬ (c.toNat : Int) < 128:=by omega
 have ln : leadN c.toNat = 2:=by unfold leadN; rw [if_pos (by omega)]
 have lv : leadV c.toNat = c.toNat - 192:=by unfold leadV; rw [if_pos (by omega)]
 by_cases h3a : (c.toNat : Int) < 194
 ·refine charStep_of_none ?_ (by simp [runesGo,rn_bad out c.toNat (by omega) (by omega)])
  rw [oneL,if_neg h1,ln,lv]
  rcases t with _ | ⟨d,t⟩
  ·simp
  ·have hd:=byte_le d
   rw [if_neg (by simp; omega)]
   simp only [show ((2 : Int) - 1).toNat = 1 from rfl,List.take_succ_cons,List.take_zero,tails]
   split
   ·rfl
   ·rename_i v hv
    split at hv
    ·cases hv
    ·cases hv
     rw [if_neg]
     intro h
     have : longI (64 * (c.toNat - 192) + d.toNat - 128) = 1:=by unfold longI; rw [if_pos (by omega)]
     omega
 ·have hs:=rn_lead out c.toNat 1 128 191 (c.toNat - 192) (by simp [stOk]; omega) (by simp [stL]; omega) (by decide) (by simp [stLo]; omega) (by simp [stHi]; omega) (by unfold payI; rw [if_neg (by omega),if_neg (by omega),if_pos (by omega)]; omega)
  rcases t with _ | ⟨d,t⟩
  ·refine charStep_of_none ?_ ?_
   ·rw [oneL,if_neg h1,ln]; simp
   ·simp [runesGo,hs]
  ·have hd:=byte_le d
   have ht:=rn_tail 1 128 191 (c.toNat - 192) out d.toNat (by decide) (by decide) (by decide)
   have h1e : oneL (c :: d :: t) = if (128 : Int) <= d.toNat /\ (d.toNat : Int) <= 191 then (((c.toNat : Int) - 192) * 64 + (d.toNat - 128),2) else (0,0):=by
    rw [oneL,if_neg h1,ln,lv,if_neg (by simp; omega)]
    simp only [show ((2 : Int) - 1).toNat = 1 from rfl,List.take_succ_cons,List.take_zero,tails]
    by_cases hdd : (128 : Int) <= d.toNat /\ (d.toNat : Int) <= 191
    ·rw [if_neg (by omega),if_pos hdd]
     simp only
     rw [if_pos]
     ·congr 1; omega
     ·refine ⟨by unfold mayB; rw [decide_eq_true_iff]; omega,?_⟩
      unfold longI; rw [if_neg (by omega),if_pos (by omega)]
    ·rw [if_pos (by omega),if_neg hdd]
   by_cases hdd : (128 : Int) <= d.toNat /\ (d.toNat : Int) <= 191
   ·rw [if_pos hdd] at h1e
    refine charStep_of_some h1e (by decide) (by simp; omega) ?_
    simp [runesGo,hs,ht,hdd]
   ·rw [if_neg hdd] at h1e
    refine charStep_of_none h1e ?_
    simp only [runesGo,hs,ht,if_neg hdd]
theorem char3 (out : List Int) (c : UInt8) (t : List UInt8) (h3 : ¬ (c.toNat : Int) < 224) (h4 : (c.toNat : Int) < 240) : CharStep out (c :: t):=by
 have hc:=byte_le c
 have h1 : ¬ (c.toNat : Int) < 128:=by omega
 have ln : leadN c.toNat = 3:=by unfold leadN; rw [if_neg (by omega),if_pos (by omega)]
 have lv : leadV c.toNat = c.toNat - 224:=by unfold leadV; rw [if_neg (by omega),if_pos (by omega)]
 obtain ⟨lo,hi,hlo,hhi,hlh⟩ : ∃ lo hi : Int,stLo 0 c.toNat = lo /\ stHi 0 c.toNat = hi /\ 128 <= lo /\ hi <= 191 /\ (((c.toNat : Int) = 224 /\ lo = 160 /\ hi = 191) \/ ((c.toNat : Int) = 237 /\ lo = 128 /\ hi = 159) \/ ((c.toNat : Int) ≠ 224 /\ (c.toNat : Int) ≠ 237 /\ lo = 128 /\ hi = 191)):=by
  refine ⟨_,_,rfl,rfl,?_⟩
  simp only [stLo,stHi,Int.lt_irrefl,if_false]
  repeat' split
  all_goals omega
 have hs:=rn_lead out c.toNat 2 lo hi (c.toNat - 224) (by simp [stOk]; omega) (by simp [stL]; omega) (by decide) hlo hhi (by unfold payI; rw [if_neg (by omega),if_neg (by omega),if_neg (by omega),if_pos (by omega)]; omega)
 rcases t with _ | ⟨d,t⟩
 ·refine charStep_of_none ?_ ?_
  ·rw [oneL,if_neg h1,ln]; simp
  ·simp [runesGo,hs]
 have hd:=byte_le d
 have ht:=rn_tail 2 lo hi (c.toNat - 224) out d.toNat (by decide) (by omega) (by omega)
 rcases t with _ | ⟨e,t⟩
 ·refine charStep_of_none ?_ ?_
  ·rw [oneL,if_neg h1,ln,if_pos (by simp)]
  ·simp only [runesGo,hs,ht]
   split
   ·rfl
   ·rename_i heq; split at heq <;> simp_all
    subst heq; simp
 have he:=byte_le e
 have ht2:=rn_tail 1 128 191 ((c.toNat - 224) * 64 + (d.toNat - 128)) out e.toNat (by decide) (by decide) (by decide)
 have h1e : oneL (c :: d :: e :: t) = if (lo <= d.toNat /\ (d.toNat : Int) <= hi) /\ (128 : Int) <= e.toNat /\ (e.toNat : Int) <= 191 then ((((c.toNat : Int) - 224) * 64 + (d.toNat - 128)) * 64 + (e.toNat - 128),3) else (0,0):=by
  rw [oneL,if_neg h1,ln,lv,if_neg (by simp; omega)]
  simp only [show ((3 : Int) - 1).toNat = 2 from rfl,List.take_succ_cons,List.take_zero,tails]
  by_cases hd1 : (128 : Int) <= d.toNat /\ (d.toNat : Int) <= 191
  ·rw [if_neg (by omega)]
   by_cases he1 : (128 : Int) <= e.toNat /\ (e.toNat : Int) <= 191
   ·rw [if_neg (by omega)]
    simp only
    by_cases hr : lo <= d.toNat /\ (d.toNat : Int) <= hi
    ·have hR:=And.intro hr he1
     rw [if_pos hR]
     have m1 : mayB (64 * (64 * ((c.toNat : Int) - 224) + d.toNat - 128) + e.toNat - 128) = true:=by unfold mayB; rw [decide_eq_true_iff]; omega
     have m2 : longI (64 * (64 * ((c.toNat : Int) - 224) + d.toNat - 128) + e.toNat - 128) = 3:=by unfold longI; rw [if_neg (by omega),if_neg (by omega),if_pos (by omega)]
     rw [if_pos ⟨m1,m2⟩]
     congr 1; omega
    ·have hR : ¬ ((lo <= d.toNat /\ (d.toNat : Int) <= hi) /\ (128 : Int) <= e.toNat /\ (e.toNat : Int) <= 191):=fun h => hr h.1
     rw [if_neg hR,if_neg]
     rintro ⟨ha,hb⟩
     unfold mayB at ha
     rw [decide_eq_true_iff] at ha
     have : ¬ 2048 <= 64 * (64 * ((c.toNat : Int) - 224) + d.toNat - 128) + e.toNat - 128:=by omega
     unfold longI at hb
     split at hb
     ·omega
     ·rw [if_pos (by omega)] at hb; omega
   ·rw [if_pos (by omega),if_neg (by omega)]
  ·rw [if_pos (by omega),if_neg (by omega)]
 by_cases hr : lo <= d.toNat /\ (d.toNat : Int) <= hi
 ·by_cases he1 : (128 : Int) <= e.toNat /\ (e.toNat : Int) <= 191
  ·rw [if_pos ⟨hr,he1⟩] at h1e
   refine charStep_of_some h1e (by decide) (by simp; omega) ?_
   simp only [runesGo,hs,ht,if_pos hr]
   simp [ht2,he1]
  ·rw [if_neg (by omega)] at h1e
   refine charStep_of_none h1e ?_
   simp only [runesGo,hs,ht,if_pos hr]
   simp [ht2,he1]
 ·rw [if_neg (by omega)] at h1e
  refine charStep_of_none h1e ?_
  simp only [runesGo,hs,ht,if_neg hr]
theorem char4 (out : List Int) (c : UInt8) (t : List UInt8) (h3 : ¬ (c.toNat : Int) < 240) (h4 : (c.toNat : Int) < 245) : CharStep out (c :: t):=by
 have hc:=byte_le c
 have h1 : ¬ (c.toNat : Int) < 128:=by omega
 have ln : leadN c.toNat = 4:=by unfold leadN; rw [if_neg (by omega),if_neg (by omega),if_pos (by omega)]
 have lv : leadV c.toNat = c.toNat - 240:=by unfold leadV; rw [if_neg (by omega),if_neg (by omega),if_pos (by omega)]
 obtain ⟨lo,hi,hlo,hhi,hlh⟩ : ∃ lo hi : Int,stLo 0 c.toNat = lo /\ stHi 0 c.toNat = hi /\ 128 <= lo /\ hi <= 191 /\ (((c.toNat : Int) = 240 /\ lo = 144 /\ hi = 191) \/ ((c.toNat : Int) = 244 /\ lo = 128 /\ hi = 143) \/ ((c.toNat : Int) ≠ 240 /\ (c.toNat : Int) ≠ 244 /\ lo = 128 /\ hi = 191)):=by
  refine ⟨_,_,rfl,rfl,?_⟩
  simp only [stLo,stHi,Int.lt_irrefl,if_false]
  repeat' split
  all_goals omega
 have hs:=rn_lead out c.toNat 3 lo hi (c.toNat - 240) (by simp [stOk]; omega) (by simp [stL]; omega) (by decide) hlo hhi (by unfold payI; rw [if_neg (by omega),if_neg (by omega),if_neg (by omega),if_neg (by omega)]; omega)
 rcases t with _ | ⟨d,t⟩
 ·refine charStep_of_none ?_ ?_
  ·rw [oneL,if_neg h1,ln]; simp
  ·simp [runesGo,hs]
 have hd:=byte_le d
 have ht:=rn_tail 3 lo hi (c.toNat - 240) out d.toNat (by decide) (by omega) (by omega)
 rw [if_neg (show ¬ (3 : Int) = 1 from by decide)] at ht
 rcases t with _ | ⟨e,t⟩
 ·refine charStep_of_none ?_ ?_
  ·rw [oneL,if_neg h1,ln,if_pos (by simp)]
  ·simp only [runesGo,hs,ht]
   split
   ·rfl
   ·rename_i heq; split at heq <;> simp_all
    subst heq; simp
 have he:=byte_le e
 have ht2:=rn_tail (3 - 1) 128 191 ((c.toNat - 240) * 64 + (d.toNat - 128)) out e.toNat (by decide) (by decide) (by decide)
 rw [if_neg (show ¬ (3 - 1 : Int) = 1 from by decide)] at ht2
 rcases t with _ | ⟨f,t⟩
 ·refine charStep_of_none ?_ ?_
  ·rw [oneL,if_neg h1,ln,if_pos (by simp)]
  ·simp only [runesGo,hs,ht]
   split
   ·rfl
   ·rename_i heq
    split at heq
    ·cases heq
     simp only [ht2]
     split
     ·rfl
     ·rename_i heq2
      split at heq2 <;> simp_all
      subst heq2; simp
    ·cases heq
 have hf:=byte_le f
 have ht3:=rn_tail (3 - 1 - 1) 128 191 (((c.toNat - 240) * 64 + (d.toNat - 128)) * 64 + (e.toNat - 128)) out f.toNat (by decide) (by decide) (by decide)
 rw [if_pos (show (3 - 1 - 1 : Int) = 1 from by decide)] at ht3
 have h1e : oneL (c :: d :: e :: f :: t) = if (lo <= d.toNat /\ (d.toNat : Int) <= hi) /\ ((128 : Int) <= e.toNat /\ (e.toNat : Int) <= 191) /\ (128 : Int) <= f.toNat /\ (f.toNat : Int) <= 191 then (((((c.toNat : Int) - 240) * 64 + (d.toNat - 128)) * 64 + (e.toNat - 128)) * 64 + (f.toNat - 128),4) else (0,0):=by
  rw [oneL,if_neg h1,ln,lv,if_neg (by simp; omega)]
  simp only [show ((4 : Int) - 1).toNat = 3 from rfl,List.take_succ_cons,List.take_zero,tails]
  by_cases hd1 : (128 : Int) <= d.toNat /\ (d.toNat : Int) <= 191
  ·rw [if_neg (by omega)]
   by_cases he1 : (128 : Int) <= e.toNat /\ (e.toNat : Int) <= 191
   ·rw [if_neg (by omega)]
    by_cases hf1 : (128 : Int) <= f.toNat /\ (f.toNat : Int) <= 191
    ·rw [if_neg (by omega)]
     simp only
     by_cases hr : lo <= d.toNat /\ (d.toNat : Int) <= hi
     ·have hR:=And.intro hr (And.intro he1 hf1)
      rw [if_pos hR]
      have m1 : mayB (64 * (64 * (64 * ((c.toNat : Int) - 240) + d.toNat - 128) + e.toNat - 128) + f.toNat - 128) = true:=by unfold mayB; rw [decide_eq_true_iff]; omega
      have m2 : longI (64 * (64 * (64 * ((c.toNat : Int) - 240) + d.toNat - 128) + e.toNat - 128) + f.toNat - 128) = 4:=by unfold longI; rw [if_neg (by omega),if_neg (by omega),if_neg (by omega)]
      rw [if_pos ⟨m1,m2⟩]
      congr 1; omega
     ·have hR : ¬ ((lo <= d.toNat /\ (d.toNat : Int) <= hi) /\ ((128 : Int) <= e.toNat /\ (e.toNat : Int) <= 191) /\ (128 : Int) <= f.toNat /\ (f.toNat : Int) <= 191):=fun h => hr h.1
      rw [if_neg hR,if_neg]
      rintro ⟨ha,hb⟩
      unfold mayB at ha
      rw [decide_eq_true_iff] at ha
      have : ¬ 65536 <= 64 * (64 * (64 * ((c.toNat : Int) - 240) + d.toNat - 128) + e.toNat - 128) + f.toNat - 128:=by omega
      unfold longI at hb
      split at hb
      ·omega
      ·split at hb
       ·omega
       ·rw [if_pos (by omega)] at hb; omega
    ·rw [if_pos (by omega),if_neg (by omega)]
   ·rw [if_pos (by omega),if_neg (by omega)]
  ·rw [if_pos (by omega),if_neg (by omega)]
 by_cases hr : lo <= d.toNat /\ (d.toNat : Int) <= hi
 ·rw [if_pos hr] at ht
  by_cases he1 : (128 : Int) <= e.toNat /\ (e.toNat : Int) <= 191
  ·rw [if_pos he1] at ht2
   by_cases hf1 : (128 : Int) <= f.toNat /\ (f.toNat : Int) <= 191
   ·rw [if_pos hf1] at ht3
    rw [if_pos ⟨hr,he1,hf1⟩] at h1e
    refine charStep_of_some h1e (by decide) (by simp; omega) ?_
    simp only [runesGo,hs,ht,ht2,ht3]
    simp
   ·rw [if_neg hf1] at ht3
    rw [if_neg (by omega)] at h1e
    refine charStep_of_none h1e ?_
    simp only [runesGo,hs,ht,ht2,ht3]
  ·rw [if_neg he1] at ht2
   rw [if_neg (by omega)] at h1e
   refine charStep_of_none h1e ?_
   simp only [runesGo,hs,ht,ht2]
 ·rw [if_neg hr] at ht
  rw [if_neg (by omega)] at h1e
  refine charStep_of_none h1e ?_
  simp only [runesGo,hs,ht]
theorem char5 (out : List Int) (c : UInt8) (t : List UInt8) (h4 : ¬ (c.toNat : Int) < 245) : CharStep out (c :: t):=by
 have hc:=byte_le c
 have h1 : ¬ (c.toNat : Int) < 128:=by omega
 refine charStep_of_none ?_ (by simp [runesGo,rn_bad out c.toNat (by omega) (by omega)])
 rw [oneL,if_neg h1]
 by_cases h5 : (c.toNat : Int) < 248
 ·have ln : leadN c.toNat = 4:=by unfold leadN; rw [if_neg (by omega),if_neg (by omega),if_pos (by omega)]
  have lv : leadV c.toNat = c.toNat - 240:=by unfold leadV; rw [if_neg (by omega),if_neg (by omega),if_pos (by omega)]
  rw [ln,lv]
  split
  ·rfl
  ·split
   ·rfl
   ·rename_i v hv
    rw [if_neg]
    rintro ⟨ha,_⟩
    unfold mayB at ha
    rw [decide_eq_true_iff] at ha
    have key : ∀ (l : List UInt8) (u : Int),5 <= u -> tails u l = some v -> l.length = 3 -> 1114111 < v:=by
     intro l u hu h hl
     match l,hl with
     | [d,e,f],_ =>
      simp only [tails] at h
      split at h
      ·cases h
      ·split at h
       ·cases h
       ·split at h
        ·cases h
        ·cases h; omega
    have:=key _ _ (by omega) hv (by simp; omega)
    omega
 ·have : leadN c.toNat = 0:=by unfold leadN; rw [if_neg (by omega),if_neg (by omega),if_neg (by omega)]
  rw [if_pos (.inl this)]
theorem charStep (out : List Int) (c : UInt8) (t : List UInt8) : CharStep out (c :: t):=by
 have hc:=byte_le c
 have hc0 : (0 : Int) <= (c.toNat : Int):=by omega
 by_cases h1 : (c.toNat : Int) < 128
 ·refine charStep_of_some (r:=c.toNat) (n:=1) (by simp [oneL,h1]) (by omega) (by simp; omega) ?_
  simp [runesGo,rn_lead0 out _ hc0 h1]
 by_cases h2 : (c.toNat : Int) < 192
 ·refine charStep_of_none ?_ (by simp [runesGo,rn_bad out c.toNat (by omega) (by omega)])
  have : leadN c.toNat = 0:=by unfold leadN; rw [if_neg (by omega),if_neg (by omega),if_neg (by omega)]
  simp [oneL,h1,this]
 by_cases h3 : (c.toNat : Int) < 224
 ·exact char2 out c t h2 h3
 by_cases h4 : (c.toNat : Int) < 240
 ·exact char3 out c t h3 h4
 by_cases h5 : (c.toNat : Int) < 245
 ·exact char4 out c t h4 h5
 ·exact char5 out c t h5
theorem take_snoc (s : ByteArray) (k : Nat) (h : k < s.size) : s.data.toList.take (k + 1) = s.data.toList.take k ++ [s[k]]:=by
 rw [List.take_succ_eq_append_getElem (by simpa using h)]
 rfl
def firstB (c : Int) : Bool:=decide ((97 <= c /\ c <= 122) \/ (65 <= c /\ c <= 90) \/ c = 95)
def laterB (c : Int) : Bool:=decide ((97 <= c /\ c <= 122) \/ (65 <= c /\ c <= 90) \/ c = 95 \/ (48 <= c /\ c <= 57) \/ c = 45 \/ c = 46)
def localL : List UInt8 -> Bool
 | [] => false
 | c :: t => decide (t.length < 16) && firstB (c.toNat : Int) && t.all (fun d => laterB (d.toNat : Int))
def badB (c : Int) : Bool:=decide (c < 33 \/ c = 123 \/ c = 125 \/ c = 34 \/ c = 60 \/ c = 62 \/ c = 38 \/ c = 92)
def spaceL (l : List UInt8) : Bool:=(runesL l).isSome && decide (1 <= l.length /\ l.length <= 48) && l.all (fun d => !badB (d.toNat : Int))
def noEnd (c : UInt8) : Bool:=decide ((c.toNat : Int) ≠ 125)
def cutL : List UInt8 -> Option (List UInt8 × List UInt8)
 | [] => none
 | c :: t =>
  if 48 < t.length + 1 then none
  else if (c.toNat : Int) = 123 then
   match t.dropWhile noEnd with
   | [] => none
   | _ :: b => if spaceL (t.takeWhile noEnd) = true /\ localL b = true then some (t.takeWhile noEnd,b) else none
  else if localL (c :: t) = true then some ([],c :: t) else none
theorem local_len {l : List UInt8} (h : localL l = true) : 1 <= l.length /\ l.length <= 16:=by
 cases l with
 | nil => cases h
 | cons c t =>
  simp only [localL,Bool.and_eq_true,decide_eq_true_eq] at h
  simp only [List.length_cons]
  omega
theorem space_len {s : List UInt8} (h : spaceL s = true) : 1 <= s.length /\ s.length <= 48:=by
 simp only [spaceL,Bool.and_eq_true,decide_eq_true_eq] at h
 exact h.1.2
theorem span_end {s l : List UInt8} (h : ∀ d ∈ s,noEnd d = true) : (s ++ 125 :: l).takeWhile noEnd = s /\ (s ++ 125 :: l).dropWhile noEnd = 125 :: l:=by
 induction s with
 | nil =>
  have e : noEnd 125 = false:=by decide
  simp [e]
 | cons d t ih =>
  have hd:=h d List.mem_cons_self
  have:=ih (fun x hx => h x (List.mem_cons_of_mem _ hx))
  simp only [List.cons_append,List.takeWhile_cons,List.dropWhile_cons,hd,if_true]
  exact ⟨by rw [this.1],this.2⟩
end Go.Proofs.YtbnppjmmlfncmaaGreatDoor
namespace Go.Proofs.YtbnppjmmlfncmaaGreatDoor.Nm
def dig (b : UInt8) : Bool:=decide (48 <= b.toNat /\ b.toNat <= 57)
def isE (b : UInt8) : Bool:=decide (b.toNat = 101 \/ b.toNat = 69)
def isPM (b : UInt8) : Bool:=decide (b.toNat = 43 \/ b.toNat = 45)
theorem dig_iff (b : UInt8) : dig b = true ↔ 48 <= b.toNat /\ b.toNat <= 57:=by unfold dig; simp
theorem dig_not (b : UInt8) : dig b = false ↔ ¬ (48 <= b.toNat /\ b.toNat <= 57):=by unfold dig; rw [decide_eq_false_iff_not]
def dgI (a : Int) : Int:=if a = 1 \/ a = 2 \/ a = 4 then 4 else if a = 5 \/ a = 6 then 6 else if a = 7 \/ a = 8 \/ a = 9 then 9 else 0
def stepI (a b : Int) : Int :=
 if b = 48 then (if a = 1 \/ a = 2 then 3 else dgI a)
 else if 49 <= b /\ b <= 57 then dgI a
 else if b = 45 then (if a = 1 then 2 else if a = 7 then 8 else 0)
 else if b = 43 then (if a = 7 then 8 else 0)
 else if b = 46 then (if a = 3 \/ a = 4 then 5 else 0)
 else if b = 101 \/ b = 69 then (if a = 3 \/ a = 4 \/ a = 6 then 7 else 0)
 else 0
def mst (a : Int) : List UInt8 -> Int
 | [] => a
 | b :: l => mst (stepI a b.toNat) l
def compB (a : Int) : Bool:=decide (a = 3 \/ a = 4 \/ a = 6 \/ a = 9)
theorem stepI_0 (b : Int) : stepI 0 b = 0:=by unfold stepI dgI; repeat' split
                                              all_goals omega
theorem mst_0 (l : List UInt8) : mst 0 l = 0:=by induction l with
 | nil => rfl
 | cons b l ih => rw [mst,stepI_0,ih]
theorem mst_append (a : Int) (l r : List UInt8) : mst a (l ++ r) = mst (mst a l) r:=by
 induction l generalizing a with
 | nil => rfl
 | cons b l ih => exact ih _
theorem mst_snoc (a : Int) (l : List UInt8) (b : UInt8) : mst a (l ++ [b]) = stepI (mst a l) b.toNat:=mst_append a l [b]
theorem st_dig {a : Int} {b : UInt8} (h : dig b = true) (h1 : a ≠ 1) (h2 : a ≠ 2) : stepI a b.toNat = dgI a:=by
 rw [dig_iff] at h
 unfold stepI
 split
 ·rw [if_neg (by omega)]
 ·rw [if_pos (by omega)]
theorem st_non {a : Int} {b : UInt8} (h : dig b = false) : stepI a b.toNat =
 if b.toNat = 45 then (if a = 1 then 2 else if a = 7 then 8 else 0) else if b.toNat = 43 then (if a = 7 then 8 else 0)
 else if b.toNat = 46 then (if a = 3 \/ a = 4 then 5 else 0) else if isE b then (if a = 3 \/ a = 4 \/ a = 6 then 7 else 0) else 0:=by
 rw [dig_not] at h
 unfold stepI isE
 rw [if_neg (by omega),if_neg (by omega)]
 simp only [decide_eq_true_eq]
 repeat' split
 all_goals first | rfl | omega
theorem mst9 (l : List UInt8) : mst 9 l = if l.all dig then 9 else 0:=by
 induction l with
 | nil => rfl
 | cons b l ih =>
  rw [mst]
  cases h : dig b
  ·rw [st_non h,List.all_cons,h]
   simp only [Bool.false_and]
   repeat' split
   all_goals first | exact mst_0 _ | omega | contradiction
  ·rw [st_dig h (by decide) (by decide),List.all_cons,h,Bool.true_and,<- ih]
   rfl
theorem mst8 (l : List UInt8) : mst 8 l = if l = [] then 8 else if l.all dig then 9 else 0:=by
 cases l with
 | nil => rfl
 | cons b l =>
  rw [mst,if_neg (by simp)]
  cases h : dig b
  ·rw [st_non h,List.all_cons,h]
   simp only [Bool.false_and]
   repeat' split
   all_goals first | exact mst_0 _ | omega | contradiction
  ·rw [st_dig h (by decide) (by decide),List.all_cons,h,Bool.true_and,<- mst9]
   rfl
def sgn : List UInt8 -> List UInt8
 | [] => []
 | b :: l => if isPM b then l else b :: l
theorem mst7 (l : List UInt8) : mst 7 l = if l = [] then 7 else if sgn l = [] then 8 else if (sgn l).all dig then 9 else 0:=by
 cases l with
 | nil => rfl
 | cons b l =>
  rw [mst,if_neg (by simp)]
  cases h : dig b
  ·rw [st_non h]
   by_cases hp : isPM b = true
   ·have es : sgn (b :: l) = l:=by unfold sgn; exact if_pos hp
    rw [es,<- mst8]
    unfold isPM at hp
    simp at hp
    repeat' split
    all_goals first | rfl | omega
   ·have es : sgn (b :: l) = b :: l:=by unfold sgn; exact if_neg hp
    rw [es,if_neg (List.cons_ne_nil _ _),List.all_cons,h,Bool.false_and,if_neg Bool.false_ne_true]
    unfold isPM at hp
    simp at hp
    repeat' split
    all_goals first | exact mst_0 _ | omega | contradiction
  ·have hp : isPM b = false:=by rw [dig_iff] at h; unfold isPM; simp; omega
   have es : sgn (b :: l) = b :: l:=by unfold sgn; exact if_neg (by simp [hp])
   rw [es,if_neg (List.cons_ne_nil _ _),st_dig h (by decide) (by decide),List.all_cons,h,Bool.true_and,<- mst9]
   rfl
def aft6 : List UInt8 -> Int
 | [] => 6
 | b :: l => if isE b then mst 7 l else 0
theorem mst6 (l : List UInt8) : mst 6 l = aft6 (l.dropWhile dig):=by
 induction l with
 | nil => rfl
 | cons b l ih =>
  rw [mst]
  cases h : dig b
  ·rw [st_non h,List.dropWhile_cons,h]
   simp only [Bool.false_eq_true,if_false,aft6]
   have e : isE b = decide (b.toNat = 101 \/ b.toNat = 69):=rfl
   by_cases he : isE b = true
   ·rw [he] at e
    have:=of_decide_eq_true e.symm
    rw [if_neg (show ¬ b.toNat = 45 by omega),if_neg (show ¬ b.toNat = 43 by omega),if_neg (show ¬ b.toNat = 46 by omega),if_pos he,if_pos he]
    rfl
   ·rw [if_neg he]
    repeat' split
    all_goals first | exact mst_0 _ | omega | contradiction
  ·rw [st_dig h (by decide) (by decide),List.dropWhile_cons,h,if_pos rfl,<- ih]
   rfl
theorem mst5 (l : List UInt8) : mst 5 l = if l = [] then 5 else if l.takeWhile dig = [] then 0 else aft6 (l.dropWhile dig):=by
 cases l with
 | nil => rfl
 | cons b l =>
  rw [mst,if_neg (by simp)]
  cases h : dig b
  ·rw [st_non h,List.takeWhile_cons,h]
   simp only [Bool.false_eq_true,if_false,if_true]
   repeat' split
   all_goals first | exact mst_0 _ | omega | contradiction
  ·rw [st_dig h (by decide) (by decide),List.takeWhile_cons,List.dropWhile_cons,h,if_pos rfl,if_neg (by simp),if_pos rfl,<- mst6]
   rfl
def aft4 (z : Int) : List UInt8 -> Int
 | [] => z
 | b :: l => if b.toNat = 46 then mst 5 l else if isE b then mst 7 l else 0
theorem aft4_step {a : Int} (ha : a = 3 \/ a = 4) {b : UInt8} (h : dig b = false) (l : List UInt8) (z : Int) : mst (stepI a b.toNat) l = aft4 z (b :: l):=by
 rw [st_non h]
 simp only [aft4]
 have e : isE b = decide (b.toNat = 101 \/ b.toNat = 69):=rfl
 by_cases he : isE b = true
 ·rw [he] at e
  have:=of_decide_eq_true e.symm
  rw [if_neg (show ¬ b.toNat = 45 by omega),if_neg (show ¬ b.toNat = 43 by omega),if_neg (show ¬ b.toNat = 46 by omega),if_pos he,if_neg (show ¬ b.toNat = 46 by omega),if_pos he,if_pos (show a = 3 \/ a = 4 \/ a = 6 by omega)]
 ·rw [if_neg he]
  repeat' split
  all_goals first | rfl | exact mst_0 _ | omega | contradiction
theorem mst4 (l : List UInt8) : mst 4 l = aft4 4 (l.dropWhile dig):=by
 induction l with
 | nil => rfl
 | cons b l ih =>
  rw [mst]
  cases h : dig b
  ·rw [List.dropWhile_cons,h]
   exact aft4_step (.inr rfl) h l 4
  ·rw [st_dig h (by decide) (by decide),List.dropWhile_cons,h,if_pos rfl,<- ih]
   rfl
theorem mst3 (l : List UInt8) : mst 3 l = if l.takeWhile dig = [] then aft4 3 l else 0:=by
 cases l with
 | nil => rfl
 | cons b l =>
  rw [mst]
  cases h : dig b
  ·rw [List.takeWhile_cons,h]
   simp only [Bool.false_eq_true,if_false,if_true]
   exact aft4_step (.inl rfl) h l 3
  ·rw [st_dig h (by decide) (by decide),List.takeWhile_cons,h,if_pos rfl,if_neg (by simp)]
   exact mst_0 _
theorem mst12 (a : Int) (ha : a = 1 \/ a = 2) (l : List UInt8) (hs : a = 1 -> ∀ b r,l = b :: r -> b.toNat ≠ 45) :
 mst a l = if l.dropWhile dig ≠ [] /\ l.takeWhile dig = [] then 0 else if 1 < (l.takeWhile dig).length /\ (l.takeWhile dig).head? = some 48 then 0
  else if l.takeWhile dig = [] then a else aft4 (if (l.takeWhile dig).head? = some 48 then 3 else 4) (l.dropWhile dig):=by
 cases l with
 | nil => rfl
 | cons b l =>
  rw [mst]
  cases h : dig b
  ·rw [List.takeWhile_cons,List.dropWhile_cons,h]
   simp only [Bool.false_eq_true,if_false]
   rw [if_pos (by simp),st_non h]
   repeat' split
   all_goals first | exact mst_0 _ | omega | (exact absurd (by assumption) (hs (by assumption) _ _ rfl))
  ·rw [List.takeWhile_cons,List.dropWhile_cons,h]
   simp only [if_true]
   rw [if_neg (by simp)]
   by_cases hz : b = 48
   ·subst hz
    have e : stepI a ((48 : UInt8).toNat : Int) = 3:=by
     show stepI a 48 = 3
     unfold stepI
     rw [if_pos rfl,if_pos ha]
    rw [e,mst3]
    cases l with
    | nil => simp [aft4]
    | cons c l =>
     cases hc : dig c
     ·rw [List.takeWhile_cons,List.dropWhile_cons,hc]
      simp
     ·rw [List.takeWhile_cons,hc]
      simp
   ·have e : stepI a b.toNat = 4:=by
     rw [dig_iff] at h
     have : b.toNat ≠ 48:=fun hc => hz (UInt8.toNat_inj.1 hc)
     unfold stepI
     rw [if_neg (by omega),if_pos (by omega)]
     rcases ha with rfl | rfl <;> rfl
    rw [e,mst4,if_neg (by simp [hz]),if_neg (by simp),if_neg (by simp [hz])]
structure Parts where
 whole : List UInt8
 part : List UInt8
 tail : List UInt8
 begins : Bool
 is : Bool
def noParts : Parts:=⟨[],[],[],false,false⟩
def negL : List UInt8 -> Bool
 | [] => false
 | b :: _ => decide (b.toNat = 45)
def unsigned (l : List UInt8) : List UInt8:=if negL l then l.drop 1 else l
def partsE (W F x : List UInt8) : Parts:=if (sgn x).all dig then ⟨W,F,x,true,decide (sgn x ≠ [])⟩ else noParts
def partsX (W F : List UInt8) : List UInt8 -> Parts
 | [] => noParts
 | c :: x => if isE c then partsE W F x else noParts
def partsF (W : List UInt8) (r : List UInt8) : Parts :=
 if r.dropWhile dig = [] then ⟨W,r.takeWhile dig,[],true,decide (r.takeWhile dig ≠ [])⟩
 else if r.takeWhile dig = [] then noParts else partsX W (r.takeWhile dig) (r.dropWhile dig)
def partsW (W : List UInt8) : List UInt8 -> Parts
 | [] => ⟨W,[],[],true,decide (W ≠ [])⟩
 | c :: r => if c.toNat = 46 then partsF W r else partsX W [] (c :: r)
def partsU (u : List UInt8) : Parts :=
 if u.dropWhile dig ≠ [] /\ u.takeWhile dig = [] then noParts
 else if 1 < (u.takeWhile dig).length /\ (u.takeWhile dig).head? = some 48 then noParts
 else partsW (u.takeWhile dig) (u.dropWhile dig)
def parts (l : List UInt8) : Parts:=partsU (unsigned l)
def Agree (p : Parts) (a : Int) : Prop:=p.begins = decide (a ≠ 0) /\ p.is = compB a
theorem agree_no : Agree noParts 0:=⟨rfl,rfl⟩
theorem agree_E (W F x : List UInt8) : Agree (partsE W F x) (mst 7 x):=by
 unfold partsE
 rw [mst7]
 by_cases h : x = []
 ·subst h; exact ⟨rfl,rfl⟩
 ·rw [if_neg h]
  by_cases h2 : sgn x = []
  ·rw [h2]; exact ⟨rfl,rfl⟩
  ·rw [if_neg h2]
   cases (sgn x).all dig
   ·exact ⟨rfl,rfl⟩
   ·simp only [if_true]
    exact ⟨rfl,by simp [h2,compB]⟩
theorem agree_X (W F l : List UInt8) (h : l ≠ []) : Agree (partsX W F l) (aft6 l):=by
 cases l with
 | nil => exact absurd rfl h
 | cons c x =>
  simp only [partsX,aft6]
  by_cases h : isE c = true
  ·rw [if_pos h,if_pos h]; exact agree_E W F x
  ·rw [if_neg h,if_neg h]; exact agree_no
theorem agree_F (W r : List UInt8) : Agree (partsF W r) (mst 5 r):=by
 rw [mst5]
 unfold partsF
 by_cases h : r = []
 ·subst h; exact ⟨rfl,rfl⟩
 ·rw [if_neg h]
  by_cases h1 : r.dropWhile dig = []
  ·rw [if_pos h1]
   by_cases h2 : r.takeWhile dig = []
   ·exfalso
    have:=List.takeWhile_append_dropWhile (p:=dig) (l:=r)
    rw [h1,h2] at this
    exact h this.symm
   ·rw [if_neg h2,h1]
    exact ⟨rfl,by simp [h2,aft6,compB]⟩
  ·rw [if_neg h1]
   by_cases h2 : r.takeWhile dig = []
   ·rw [if_pos h2,if_pos h2]; exact agree_no
   ·rw [if_neg h2,if_neg h2]; exact agree_X _ _ _ h1
theorem agree_W (W l : List UInt8) (z : Int) (hz : z = 3 \/ z = 4) (hW : W ≠ []) : Agree (partsW W l) (aft4 z l):=by
 cases l with
 | nil =>
  refine ⟨?_,?_⟩
  ·show true = decide (z ≠ 0)
   rw [decide_eq_true (by omega)]
  ·show decide (W ≠ []) = compB z
   unfold compB
   rw [decide_eq_true hW,decide_eq_true (by omega)]
 | cons c r =>
  simp only [partsW,aft4]
  by_cases h : c.toNat = 46
  ·rw [if_pos h,if_pos h]; exact agree_F W r
  ·rw [if_neg h,if_neg h]
   exact agree_X W [] (c :: r) (by simp)
theorem agree_U (a : Int) (ha : a = 1 \/ a = 2) (u : List UInt8) (hs : a = 1 -> ∀ b r,u = b :: r -> b.toNat ≠ 45) : Agree (partsU u) (mst a u):=by
 rw [mst12 a ha u hs]
 unfold partsU
 split
 ·exact agree_no
 ·rename_i h1
  split
  ·exact agree_no
  ·by_cases h : u.takeWhile dig = []
   ·have h2 : u.dropWhile dig = []:=by
     apply Decidable.byContradiction
     intro hc
     exact h1 ⟨hc,h⟩
    rw [if_pos h,h,h2]
    refine ⟨?_,?_⟩
    ·show true = decide (a ≠ 0)
     rw [decide_eq_true (by omega)]
    ·show decide (([] : List UInt8) ≠ []) = compB a
     unfold compB
     rw [decide_eq_false (by simp),decide_eq_false (by omega)]
   ·rw [if_neg h]
    exact agree_W _ _ _ (by split <;> simp) h
theorem agree_all (l : List UInt8) : Agree (parts l) (mst 1 l):=by
 unfold parts unsigned
 cases l with
 | nil => exact agree_U 1 (.inl rfl) [] (by intro _ _ _ h; cases h)
 | cons b l =>
  by_cases h : b.toNat = 45
  ·rw [show negL (b :: l) = true from decide_eq_true h,if_pos rfl]
   have e : stepI 1 b.toNat = 2:=by
    rw [show (b.toNat : Int) = 45 from by omega]
    rfl
   rw [mst,e]
   exact agree_U 2 (.inr rfl) l (by intro h; cases h)
  ·rw [show negL (b :: l) = false from decide_eq_false h,if_neg (by decide)]
   refine agree_U 1 (.inl rfl) (b :: l) ?_
   intro _ c r hc
   injection hc with h1 h2
   subst h1
   exact h
def begB (l : List UInt8) : Bool:=decide (mst 1 l ≠ 0)
def isB (l : List UInt8) : Bool:=compB (mst 1 l)
theorem parts_begins (l : List UInt8) : (parts l).begins = begB l:=(agree_all l).1
theorem parts_is (l : List UInt8) : (parts l).is = isB l:=(agree_all l).2
theorem is_begins {l : List UInt8} (h : isB l = true) : begB l = true:=by
 unfold isB compB at h
 unfold begB
 have:=of_decide_eq_true h
 exact decide_eq_true (by omega)
end Go.Proofs.YtbnppjmmlfncmaaGreatDoor.Nm
