/-
  Numbers as plain functions: the machine of states, the parts of a text, and that they agree.
  The value of a number, its normal form, and the order of values, as plain functions.
  The events of documents as plain functions: which events are allowed, the machine of what is open, its run. No program is read here.
-/
import Derived.Lib.Strings
import Derived.Lib.TrimByte
import Derived.Lib.ItoaNum
import Derived.Lib.ItoaLen
import Derived.Lib.AtoiAll
import Derived.Lib.Small
import Derived.Test.YtbnppjmmlfncmaaGreatDoorIsA02
namespace Go.Proofs.YtbnppjmmlfncmaaGreatDoor.Nm
def dig (b : UInt8) : Bool:=decide (48 <= b.toNat /\ b.toNat <= 57)
def isE (b : UInt8) : Bool:=decide (b.toNat = 101 \/ b.toNat = 69)
def isPM (b : UInt8) : Bool:=decide (b.toNat = 43 \/ b.toNat = 45)
theorem dig_iff (b : UInt8) : dig b = true ↔ 48 <= b.toNat /\ b.toNat <= 57:=by unfold dig; simp
theorem dig_not (b : UInt8) : dig b = false ↔ ¬ (48 <= b.toNat /\ b.toNat <= 57):=by unfold dig; rw [decide_eq_false_iff_not]
def dgI (a : Int) : Int:=if a = 1 \/ a = 2 \/ a = 4 then 4 else if a = 5 \/ a = 6 then 6 else if a = 7 \/ a = 8 \/ a = 9 then 9 else 0
def stepI (a b : Int) : Int :=
 if b = 48 then (if a = 1 \/ a = 2 then 3 else dgI a)
 else if 49 <= b /\ b <= 57 then dgI a
 else if b = 45 then (if a = 1 then 2 else if a = 7 then 8 else 0)
 else if b = 43 then (if a = 7 then 8 else 0)
 else if b = 46 then (if a = 3 \/ a = 4 then 5 else 0)
 else if b = 101 \/ b = 69 then (if a = 3 \/ a = 4 \/ a = 6 then 7 else 0)
 else 0
def mst (a : Int) : List UInt8 -> Int
 | [] => a
 | b :: l => mst (stepI a b.toNat) l
def compB (a : Int) : Bool:=decide (a = 3 \/ a = 4 \/ a = 6 \/ a = 9)
theorem stepI_0 (b : Int) : stepI 0 b = 0:=by unfold stepI dgI; repeat' split
                                              all_goals omega
theorem mst_0 (l : List UInt8) : mst 0 l = 0:=by induction l with
 | nil => rfl
 | cons b l ih => rw [mst,stepI_0,ih]
theorem mst_append (a : Int) (l r : List UInt8) : mst a (l ++ r) = mst (mst a l) r:=by
 induction l generalizing a with
 | nil => rfl
 | cons b l ih => exact ih _
theorem mst_snoc (a : Int) (l : List UInt8) (b : UInt8) : mst a (l ++ [b]) = stepI (mst a l) b.toNat:=mst_append a l [b]
theorem st_dig {a : Int} {b : UInt8} (h : dig b = true) (h1 : a ≠ 1) (h2 : a ≠ 2) : stepI a b.toNat = dgI a:=by
 rw [dig_iff] at h
 unfold stepI
 split
 ·rw [if_neg (by omega)]
 ·rw [if_pos (by omega)]
theorem st_non {a : Int} {b : UInt8} (h : dig b = false) : stepI a b.toNat =
 if b.toNat = 45 then (if a = 1 then 2 else if a = 7 then 8 else 0) else if b.toNat = 43 then (if a = 7 then 8 else 0)
 else if b.toNat = 46 then (if a = 3 \/ a = 4 then 5 else 0) else if isE b then (if a = 3 \/ a = 4 \/ a = 6 then 7 else 0) else 0:=by
 rw [dig_not] at h
 unfold stepI isE
 rw [if_neg (by omega),if_neg (by omega)]
 simp only [decide_eq_true_eq]
 repeat' split
 all_goals first | rfl | omega
theorem mst9 (l : List UInt8) : mst 9 l = if l.all dig then 9 else 0:=by
 induction l with
 | nil => rfl
 | cons b l ih =>
  rw [mst]
  cases h : dig b
  ·rw [st_non h,List.all_cons,h]
   simp only [Bool.false_and]
   repeat' split
   all_goals first | exact mst_0 _ | omega | contradiction
  ·rw [st_dig h (by decide) (by decide),List.all_cons,h,Bool.true_and,<- ih]
   rfl
theorem mst8 (l : List UInt8) : mst 8 l = if l = [] then 8 else if l.all dig then 9 else 0:=by
 cases l with
 | nil => rfl
 | cons b l =>
  rw [mst,if_neg (by simp)]
  cases h : dig b
  ·rw [st_non h,List.all_cons,h]
   simp only [Bool.false_and]
   repeat' split
   all_goals first | exact mst_0 _ | omega | contradiction
  ·rw [st_dig h (by decide) (by decide),List.all_cons,h,Bool.true_and,<- mst9]
   rfl
def sgn : List UInt8 -> List UInt8
 | [] => []
 | b :: l => if isPM b then l else b :: l
theorem mst7 (l : List UInt8) : mst 7 l = if l = [] then 7 else if sgn l = [] then 8 else if (sgn l).all dig then 9 else 0:=by
 cases l with
 | nil => rfl
 | cons b l =>
  rw [mst,if_neg (by simp)]
  cases h : dig b
  ·rw [st_non h]
   by_cases hp : isPM b = true
   ·have es : sgn (b :: l) = l:=by unfold sgn; exact if_pos hp
    rw [es,<- mst8]
    unfold isPM at hp
    simp at hp
    repeat' split
    all_goals first | rfl | omega
   ·have es : sgn (b :: l) = b :: l:=by unfold sgn; exact if_neg hp
    rw [es,if_neg (List.cons_ne_nil _ _),List.all_cons,h,Bool.false_and,if_neg Bool.false_ne_true]
    unfold isPM at hp
    simp at hp
    repeat' split
    all_goals first | exact mst_0 _ | omega | contradiction
  ·have hp : isPM b = false:=by rw [dig_iff] at h; unfold isPM; simp; omega
   have es : sgn (b :: l) = b :: l:=by unfold sgn; exact if_neg (by simp [hp])
   rw [es,if_neg (List.cons_ne_nil _ _),st_dig h (by decide) (by decide),List.all_cons,h,Bool.true_and,<- mst9]
   rfl
def aft6 : List UInt8 -> Int
 | [] => 6
 | b :: l => if isE b then mst 7 l else 0
theorem mst6 (l : List UInt8) : mst 6 l = aft6 (l.dropWhile dig):=by
 induction l with
 | nil => rfl
 | cons b l ih =>
  rw [mst]
  cases h : dig b
  ·rw [st_non h,List.dropWhile_cons,h]
   simp only [Bool.false_eq_true,if_false,aft6]
   have e : isE b = decide (b.toNat = 101 \/ b.toNat = 69):=rfl
   by_cases he : isE b = true
   ·rw [he] at e
    have:=of_decide_eq_true e.symm
    rw [if_neg (show ¬ b.toNat = 45 by omega),if_neg (show ¬ b.toNat = 43 by omega),if_neg (show ¬ b.toNat = 46 by omega),if_pos he,if_pos he]
    rfl
   ·rw [if_neg he]
    repeat' split
    all_goals first | exact mst_0 _ | omega | contradiction
  ·rw [st_dig h (by decide) (by decide),List.dropWhile_cons,h,if_pos rfl,<- ih]
   rfl
theorem mst5 (l : List UInt8) : mst 5 l = if l = [] then 5 else if l.takeWhile dig = [] then 0 else aft6 (l.dropWhile dig):=by
 cases l with
 | nil => rfl
 | cons b l =>
  rw [mst,if_neg (by simp)]
  cases h : dig b
  ·rw [st_non h,List.takeWhile_cons,h]
   simp only [Bool.false_eq_true,if_false,if_true]
   repeat' split
   all_goals first | exact mst_0 _ | omega | contradiction
  ·rw [st_dig h (by decide) (by decide),List.takeWhile_cons,List.dropWhile_cons,h,if_pos rfl,if_neg (by simp),if_pos rfl,<- mst6]
   rfl
def aft4 (z : Int) : List UInt8 -> Int
 | [] => z
 | b :: l => if b.toNat = 46 then mst 5 l else if isE b then mst 7 l else 0
theorem aft4_step {a : Int} (ha : a = 3 \/ a = 4) {b : UInt8} (h : dig b = false) (l : List UInt8) (z : Int) : mst (stepI a b.toNat) l = aft4 z (b :: l):=by
 rw [st_non h]
 simp only [aft4]
 have e : isE b = decide (b.toNat = 101 \/ b.toNat = 69):=rfl
 by_cases he : isE b = true
 ·rw [he] at e
  have:=of_decide_eq_true e.symm
  rw [if_neg (show ¬ b.toNat = 45 by omega),if_neg (show ¬ b.toNat = 43 by omega),if_neg (show ¬ b.toNat = 46 by omega),if_pos he,if_neg (show ¬ b.toNat = 46 by omega),if_pos he,if_pos (show a = 3 \/ a = 4 \/ a = 6 by omega)]
 ·rw [if_neg he]
  repeat' split
  all_goals first | rfl | exact mst_0 _ | omega | contradiction
theorem mst4 (l : List UInt8) : mst 4 l = aft4 4 (l.dropWhile dig):=by
 induction l with
 | nil => rfl
 | cons b l ih =>
  rw [mst]
  cases h : dig b
  ·rw [List.dropWhile_cons,h]
   exact aft4_step (.inr rfl) h l 4
  ·rw [st_dig h (by decide) (by decide),List.dropWhile_cons,h,if_pos rfl,<- ih]
   rfl
theorem mst3 (l : List UInt8) : mst 3 l = if l.takeWhile dig = [] then aft4 3 l else 0:=by
 cases l with
 | nil => rfl
 | cons b l =>
  rw [mst]
  cases h : dig b
  ·rw [List.takeWhile_cons,h]
   simp only [Bool.false_eq_true,if_false,if_true]
   exact aft4_step (.inl rfl) h l 3
  ·rw [st_dig h (by decide) (by decide),List.takeWhile_cons,h,if_pos rfl,if_neg (by simp)]
   exact mst_0 _
theorem mst12 (a : Int) (ha : a = 1 \/ a = 2) (l : List UInt8) (hs : a = 1 -> ∀ b r,l = b :: r -> b.toNat ≠ 45) :
 mst a l = if l.dropWhile dig ≠ [] /\ l.takeWhile dig = [] then 0 else if 1 < (l.takeWhile dig).length /\ (l.takeWhile dig).head? = some 48 then 0
  else if l.takeWhile dig = [] then a else aft4 (if (l.takeWhile dig).head? = some 48 then 3 else 4) (l.dropWhile dig):=by
 cases l with
 | nil => rfl
 | cons b l =>
  rw [mst]
  cases h : dig b
  ·rw [List.takeWhile_cons,List.dropWhile_cons,h]
   simp only [Bool.false_eq_true,if_false]
   rw [if_pos (by simp),st_non h]
   repeat' split
   all_goals first | exact mst_0 _ | omega | (exact absurd (by assumption) (hs (by assumption) _ _ rfl))
  ·rw [List.takeWhile_cons,List.dropWhile_cons,h]
   simp only [if_true]
   rw [if_neg (by simp)]
   by_cases hz : b = 48
   ·subst hz
    have e : stepI a ((48 : UInt8).toNat : Int) = 3:=by
     show stepI a 48 = 3
     unfold stepI
     rw [if_pos rfl,if_pos ha]
    rw [e,mst3]
    cases l with
    | nil => simp [aft4]
    | cons c l =>
     cases hc : dig c
     ·rw [List.takeWhile_cons,List.dropWhile_cons,hc]
      simp
     ·rw [List.takeWhile_cons,hc]
      simp
   ·have e : stepI a b.toNat = 4:=by
     rw [dig_iff] at h
     have : b.toNat ≠ 48:=fun hc => hz (UInt8.toNat_inj.1 hc)
     unfold stepI
     rw [if_neg (by omega),if_pos (by omega)]
     rcases ha with rfl | rfl <;> rfl
    rw [e,mst4,if_neg (by simp [hz]),if_neg (by simp),if_neg (by simp [hz])]
structure Parts where
 whole : List UInt8
 part : List UInt8
 tail : List UInt8
 begins : Bool
 is : Bool
def noParts : Parts:=⟨[],[],[],false,false⟩
def negL : List UInt8 -> Bool
 | [] => false
 | b :: _ => decide (b.toNat = 45)
def unsigned (l : List UInt8) : List UInt8:=if negL l then l.drop 1 else l
def partsE (W F x : List UInt8) : Parts:=if (sgn x).all dig then ⟨W,F,x,true,decide (sgn x ≠ [])⟩ else noParts
def partsX (W F : List UInt8) : List UInt8 -> Parts
 | [] => noParts
 | c :: x => if isE c then partsE W F x else noParts
def partsF (W : List UInt8) (r : List UInt8) : Parts :=
 if r.dropWhile dig = [] then ⟨W,r.takeWhile dig,[],true,decide (r.takeWhile dig ≠ [])⟩
 else if r.takeWhile dig = [] then noParts else partsX W (r.takeWhile dig) (r.dropWhile dig)
def partsW (W : List UInt8) : List UInt8 -> Parts
 | [] => ⟨W,[],[],true,decide (W ≠ [])⟩
 | c :: r => if c.toNat = 46 then partsF W r else partsX W [] (c :: r)
def partsU (u : List UInt8) : Parts :=
 if u.dropWhile dig ≠ [] /\ u.takeWhile dig = [] then noParts
 else if 1 < (u.takeWhile dig).length /\ (u.takeWhile dig).head? = some 48 then noParts
 else partsW (u.takeWhile dig) (u.dropWhile dig)
def parts (l : List UInt8) : Parts:=partsU (unsigned l)
def Agree (p : Parts) (a : Int) : Prop:=p.begins = decide (a ≠ 0) /\ p.is = compB a
theorem agree_no : Agree noParts 0:=⟨rfl,rfl⟩
theorem agree_E (W F x : List UInt8) : Agree (partsE W F x) (mst 7 x):=by
 unfold partsE
 rw [mst7]
 by_cases h : x = []
 ·subst h; exact ⟨rfl,rfl⟩
 ·rw [if_neg h]
  by_cases h2 : sgn x = []
  ·rw [h2]; exact ⟨rfl,rfl⟩
  ·rw [if_neg h2]
   cases (sgn x).all dig
   ·exact ⟨rfl,rfl⟩
   ·simp only [if_true]
    exact ⟨rfl,by simp [h2,compB]⟩
theorem agree_X (W F l : List UInt8) (h : l ≠ []) : Agree (partsX W F l) (aft6 l):=by
 cases l with
 | nil => exact absurd rfl h
 | cons c x =>
  simp only [partsX,aft6]
  by_cases h : isE c = true
  ·rw [if_pos h,if_pos h]; exact agree_E W F x
  ·rw [if_neg h,if_neg h]; exact agree_no
theorem agree_F (W r : List UInt8) : Agree (partsF W r) (mst 5 r):=by
 rw [mst5]
 unfold partsF
 by_cases h : r = []
 ·subst h; exact ⟨rfl,rfl⟩
 ·rw [if_neg h]
  by_cases h1 : r.dropWhile dig = []
  ·rw [if_pos h1]
   by_cases h2 : r.takeWhile dig = []
   ·exfalso
    have:=List.takeWhile_append_dropWhile (p:=dig) (l:=r)
    rw [h1,h2] at this
    exact h this.symm
   ·rw [if_neg h2,h1]
    exact ⟨rfl,by simp [h2,aft6,compB]⟩
  ·rw [if_neg h1]
   by_cases h2 : r.takeWhile dig = []
   ·rw [if_pos h2,if_pos h2]; exact agree_no
   ·rw [if_neg h2,if_neg h2]; exact agree_X _ _ _ h1
theorem agree_W (W l : List UInt8) (z : Int) (hz : z = 3 \/ z = 4) (hW : W ≠ []) : Agree (partsW W l) (aft4 z l):=by
 cases l with
 | nil =>
  refine ⟨?_,?_⟩
  ·show true = decide (z ≠ 0)
   rw [decide_eq_true (by omega)]
  ·show decide (W ≠ []) = compB z
   unfold compB
   rw [decide_eq_true hW,decide_eq_true (by omega)]
 | cons c r =>
  simp only [partsW,aft4]
  by_cases h : c.toNat = 46
  ·rw [if_pos h,if_pos h]; exact agree_F W r
  ·rw [if_neg h,if_neg h]
   exact agree_X W [] (c :: r) (by simp)
theorem agree_U (a : Int) (ha : a = 1 \/ a = 2) (u : List UInt8) (hs : a = 1 -> ∀ b r,u = b :: r -> b.toNat ≠ 45) : Agree (partsU u) (mst a u):=by
 rw [mst12 a ha u hs]
 unfold partsU
 split
 ·exact agree_no
 ·rename_i h1
  split
  ·exact agree_no
  ·by_cases h : u.takeWhile dig = []
   ·have h2 : u.dropWhile dig = []:=by
     apply Decidable.byContradiction
     intro hc
     exact h1 ⟨hc,h⟩
    rw [if_pos h,h,h2]
    refine ⟨?_,?_⟩
    ·show true = decide (a ≠ 0)
     rw [decide_eq_true (by omega)]
    ·show decide (([] : List UInt8) ≠ []) = compB a
     unfold compB
     rw [decide_eq_false (by simp),decide_eq_false (by omega)]
   ·rw [if_neg h]
    exact agree_W _ _ _ (by split <;> simp) h
theorem agree_all (l : List UInt8) : Agree (parts l) (mst 1 l):=by
 unfold parts unsigned
 cases l with
 | nil => exact agree_U 1 (.inl rfl) [] (by intro _ _ _ h; cases h)
 | cons b l =>
  by_cases h : b.toNat = 45
  ·rw [show negL (b :: l) = true from decide_eq_true h,if_pos rfl]
   have e : stepI 1 b.toNat = 2:=by
    rw [show (b.toNat : Int) = 45 from by omega]
    rfl
   rw [mst,e]
   exact agree_U 2 (.inr rfl) l (by intro h; cases h)
  ·rw [show negL (b :: l) = false from decide_eq_false h,if_neg (by decide)]
   refine agree_U 1 (.inl rfl) (b :: l) ?_
   intro _ c r hc
   injection hc with h1 h2
   subst h1
   exact h
def begB (l : List UInt8) : Bool:=decide (mst 1 l ≠ 0)
def isB (l : List UInt8) : Bool:=compB (mst 1 l)
theorem parts_begins (l : List UInt8) : (parts l).begins = begB l:=(agree_all l).1
theorem parts_is (l : List UInt8) : (parts l).is = isB l:=(agree_all l).2
theorem is_begins {l : List UInt8} (h : isB l = true) : begB l = true:=by
 unfold isB compB at h
 unfold begB
 have:=of_decide_eq_true h
 exact decide_eq_true (by omega)
def decStep (acc : Nat) (b : UInt8) : Nat:=10 * acc + (b.toNat - 48)
def decN (acc : Nat) (l : List UInt8) : Nat:=l.foldl decStep acc
def B40 : Nat:=1099511627776
def satStep (acc : Nat) (b : UInt8) : Nat:=if dig b = true /\ acc < B40 then 10 * acc + (b.toNat - 48) else acc
def satN (acc : Nat) : List UInt8 -> Nat
 | [] => acc
 | b :: l => satN (satStep acc b) l
theorem satStep_yes {acc : Nat} {b : UInt8} (h : dig b = true) (h2 : acc < B40) : satStep acc b = 10 * acc + (b.toNat - 48):=if_pos ⟨h,h2⟩
theorem satStep_no {acc : Nat} {b : UInt8} (h : ¬ (dig b = true /\ acc < B40)) : satStep acc b = acc:=if_neg h
theorem decN_nil (acc : Nat) : decN acc [] = acc:=by unfold decN; rw [List.foldl_nil]
theorem decN_cons (acc : Nat) (b : UInt8) (l : List UInt8) : decN acc (b :: l) = decN (10 * acc + (b.toNat - 48)) l:=by unfold decN; rw [List.foldl_cons,decStep]
theorem satN_yes {acc : Nat} {b : UInt8} (h : dig b = true) (h2 : acc < B40) (l : List UInt8) : satN acc (b :: l) = satN (10 * acc + (b.toNat - 48)) l:=by rw [satN,satStep_yes h h2]
theorem satN_no {acc : Nat} {b : UInt8} (h : ¬ (dig b = true /\ acc < B40)) (l : List UInt8) : satN acc (b :: l) = satN acc l:=by rw [satN,satStep_no h]
theorem decN_ge (l : List UInt8) (acc : Nat) : acc <= decN acc l:=by
 induction l generalizing acc with
 | nil => rw [decN_nil]; exact Nat.le_refl _
 | cons b l ih => rw [decN_cons]; exact Nat.le_trans (by omega) (ih _)
theorem satN_big (l : List UInt8) (acc : Nat) (h : B40 <= acc) : satN acc l = acc:=by
 induction l generalizing acc with
 | nil => rfl
 | cons b l ih => rw [satN_no (fun hc => by have:=hc.2; omega),ih _ h]
theorem satN_cases (l : List UInt8) (hl : l.all dig = true) (acc : Nat) : satN acc l = decN acc l \/ (B40 <= satN acc l /\ B40 <= decN acc l):=by
 induction l generalizing acc with
 | nil => rw [decN_nil]; exact .inl rfl
 | cons b l ih =>
  rw [List.all_cons,Bool.and_eq_true] at hl
  by_cases h : acc < B40
  ·rw [satN_yes hl.1 h,decN_cons]
   exact ih hl.2 _
  ·refine .inr ⟨?_,?_⟩
   ·rw [satN_big _ _ (Nat.le_of_not_lt h)]; exact Nat.le_of_not_lt h
   ·exact Nat.le_trans (Nat.le_of_not_lt h) (decN_ge (b :: l) acc)
theorem parse_dec (l : List UInt8) (hl : l.all dig = true) (acc : Nat) (ha : acc < 18446744073709551616) :
 Lib.parseUint10 acc l = if decN acc l < 18446744073709551616 then .ok (decN acc l) else .range:=by
 induction l generalizing acc with
 | nil => rw [decN_nil,if_pos ha]; rfl
 | cons b l ih =>
  rw [List.all_cons,Bool.and_eq_true,dig_iff] at hl
  have hge:=decN_ge l (10 * acc + (b.toNat - 48))
  have hd:=decN_cons acc b l
  rw [Lib.parseUint10,if_pos hl.1,hd]
  by_cases h1 : 1844674407370955162 <= acc
  ·rw [if_pos h1]
   exact (if_neg (by omega)).symm
  ·rw [if_neg h1]
   by_cases h2 : 18446744073709551616 <= acc * 10 + (b.toNat - 48)
   ·rw [if_pos h2]
    exact (if_neg (by omega)).symm
   ·rw [if_neg h2,show acc * 10 + (b.toNat - 48) = 10 * acc + (b.toNat - 48) from by omega]
    exact ih hl.2 _ (by omega)
def eexp (t : List UInt8) : Int:=if negL t then -(decN 0 (sgn t) : Int) else decN 0 (sgn t)
def esat (t : List UInt8) : Int:=if negL t then -(satN 0 t : Int) else satN 0 t
theorem satN_sgn (t : List UInt8) : satN 0 t = satN 0 (sgn t):=by
 cases t with
 | nil => rfl
 | cons b l =>
  unfold sgn
  by_cases h : isPM b = true
  ·have hd : dig b = false:=by unfold isPM at h; rw [dig_not]; have:=of_decide_eq_true h; omega
   simp only [h,if_true]
   rw [satN_no (by rw [hd]; simp)]
  ·simp only [h]
   rfl
def clampI (n : Int) : Int:=max (-2058) (min n 2058)
def endI (e : Lib.NumEnd Int) (sat : Int) : Int:=match e with | .ok v => v | .range => sat | _ => 0
def atoiI (t : List UInt8) : Int:=endI (Lib.atoiAll t) (Lib.atoiSat t)
theorem isPM_iff (b : UInt8) : isPM b = true ↔ b.toNat = 43 \/ b.toNat = 45:=by unfold isPM; simp
theorem atoi_tail (t : List UInt8) (h1 : sgn t ≠ []) (h2 : (sgn t).all dig = true) : (Lib.atoiAll t = .range \/ ∃ v,Lib.atoiAll t = .ok v) /\ clampI (atoiI t) = clampI (eexp t):=by
 cases t with
 | nil => exact absurd rfl h1
 | cons c r =>
  have e1 : (if c.toNat = 43 \/ c.toNat = 45 then r else c :: r) = sgn (c :: r):=by
   simp only [sgn]
   by_cases h : c.toNat = 43 \/ c.toNat = 45
   ·rw [if_pos h,if_pos ((isPM_iff c).2 h)]
   ·rw [if_neg h,if_neg (fun hc => h ((isPM_iff c).1 hc))]
  have e2 : Lib.parseMag (sgn (c :: r)) = if decN 0 (sgn (c :: r)) < 18446744073709551616 then .ok (decN 0 (sgn (c :: r))) else .range:=by
   unfold Lib.parseMag
   rw [if_neg h1,parse_dec _ h2 0 (by omega)]
  have e3 : negL (c :: r) = decide (c.toNat = 45):=rfl
  have e4 : Lib.atoiSat (c :: r) = if c.toNat = 45 then -9223372036854775808 else 9223372036854775807:=by
   unfold Lib.atoiSat
   simp
  unfold atoiI eexp
  rw [e3,e4]
  simp only [Lib.atoiAll,e1,e2]
  generalize decN 0 (sgn (c :: r)) = n
  by_cases hn : n < 18446744073709551616
  ·rw [if_pos hn]
   simp only [decide_eq_true_eq]
   by_cases hc : c.toNat = 45
   ·simp only [hc,not_true_eq_false,false_and,if_false,true_and,if_true]
    by_cases hb : 9223372036854775808 < n
    ·rw [if_pos hb]
     refine ⟨.inl rfl,?_⟩
     unfold clampI endI; simp only []; omega
    ·rw [if_neg hb]; exact ⟨.inr ⟨_,rfl⟩,rfl⟩
   ·simp only [hc,not_false_eq_true,true_and,false_and,if_false]
    by_cases hb : 9223372036854775808 <= n
    ·rw [if_pos hb]
     refine ⟨.inl rfl,?_⟩
     unfold clampI endI; simp only []; omega
    ·rw [if_neg hb]; exact ⟨.inr ⟨_,rfl⟩,rfl⟩
  ·rw [if_neg hn]
   refine ⟨.inl rfl,?_⟩
   simp only [decide_eq_true_eq]
   unfold clampI endI
   simp only []
   split <;> omega
def Near (e e' : Int) : Prop:=e' = e \/ (1100 < e /\ 1100 < e') \/ (e < -1100 /\ e' < -1100)
theorem near_clamp (e : Int) : Near e (clampI e):=by unfold Near clampI; omega
theorem near_sat (t : List UInt8) (h2 : (sgn t).all dig = true) : Near (eexp t) (esat t):=by
 unfold eexp esat
 rw [satN_sgn]
 have:=satN_cases (sgn t) h2 0
 unfold B40 at this
 unfold Near
 split <;> omega
theorem near_atoi (t : List UInt8) (h1 : sgn t ≠ []) (h2 : (sgn t).all dig = true) : Near (eexp t) (clampI (atoiI t)):=by
 rw [(atoi_tail t h1 h2).2]
 exact near_clamp _
structure Val where
 neg : Bool
 digs : List UInt8
 pow : Int
 deriving DecidableEq
def allD (l : List UInt8) : List UInt8:=(parts l).whole ++ (parts l).part
def rightD (l : List UInt8) : List UInt8:=Lib.trimRightB (allD l) 48
def digsD (l : List UInt8) : List UInt8:=Lib.trimLeftB (rightD l) 48
def powD (l : List UInt8) (e : Int) : Int:=e + ((allD l).length : Int) - (rightD l).length - (parts l).part.length
def valE (l : List UInt8) (e : Int) : Val:=if digsD l = [] then ⟨false,[],0⟩ else ⟨negL l,digsD l,powD l e⟩
def tailI (p : Int) : List UInt8:=if p = 0 then [] else 101 :: Lib.itoa p
def formL (v : Val) : List UInt8:=if v.digs = [] then [48] else (if v.neg then [45] else []) ++ v.digs ++ tailI v.pow
def okV (v : Val) : Bool:=decide (-999 <= v.pow /\ v.pow <= 999 /\ (formL v).length <= 30)
def readE (l : List UInt8) (e : Int) : Option Val:=if isB l = true /\ l.length <= 30 then (if okV (valE l e) then some (valE l e) else none) else none
def readL (l : List UInt8) : Option Val:=readE l (eexp (parts l).tail)
theorem unsigned_len (l : List UInt8) : (unsigned l).length <= l.length:=by unfold unsigned; split <;> simp
theorem tw_dw (l : List UInt8) : (l.takeWhile dig).length + (l.dropWhile dig).length = l.length:=by
 rw [<- List.length_append,List.takeWhile_append_dropWhile]
theorem partsX_len (W F r : List UInt8) : ((partsX W F r).whole.length + (partsX W F r).part.length) <= W.length + F.length:=by
 cases r with
 | nil => simp [partsX,noParts]
 | cons c x =>
  simp only [partsX]
  by_cases h : isE c = true
  ·rw [if_pos h]
   unfold partsE
   split
   ·exact Nat.le_refl _
   ·simp [noParts]
  ·rw [if_neg h]; simp [noParts]
theorem partsW_len (W r : List UInt8) : ((partsW W r).whole.length + (partsW W r).part.length) <= W.length + r.length:=by
 cases r with
 | nil => simp [partsW]
 | cons c r =>
  simp only [partsW]
  by_cases h : c.toNat = 46
  ·rw [if_pos h]
   unfold partsF
   have:=tw_dw r
   split
   ·simp; omega
   ·split
    ·simp [noParts]
    ·refine Nat.le_trans (partsX_len _ _ _) ?_
     simp; omega
  ·rw [if_neg h]
   refine Nat.le_trans (partsX_len _ _ _) ?_
   simp
theorem parts_len (l : List UInt8) : ((parts l).whole.length + (parts l).part.length) <= l.length:=by
 unfold parts partsU
 have:=unsigned_len l
 split
 ·simp [noParts]
 ·split
  ·simp [noParts]
  ·have h1:=tw_dw (unsigned l)
   exact Nat.le_trans (partsW_len _ _) (by omega)
theorem trimR_len (l : List UInt8) (c : UInt8) : (Lib.trimRightB l c).length <= l.length:=by
 unfold Lib.trimRightB
 rw [List.length_reverse]
 exact Nat.le_trans (List.dropWhile_suffix _).sublist.length_le (by simp)
theorem trimL_len (l : List UInt8) (c : UInt8) : (Lib.trimLeftB l c).length <= l.length:=(List.dropWhile_suffix _).sublist.length_le
theorem readE_near (l : List UInt8) (e e' : Int) (h : Near e e') : readE l e' = readE l e:=by
 unfold readE
 by_cases hl : isB l = true /\ l.length <= 30
 ·rw [if_pos hl,if_pos hl]
  rcases h with h | h
  ·rw [h]
  ·have h1:=parts_len l
   have h2:=trimR_len (allD l) 48
   have h3 : (allD l).length = (parts l).whole.length + (parts l).part.length:=by unfold allD; simp
   by_cases hd : digsD l = []
   ·unfold valE; rw [if_pos hd,if_pos hd]
   ·have hk : ∀ x : Int,(1100 < x \/ x < -1100) -> okV (valE l x) = false:=by
     intro x hx
     unfold okV valE
     rw [if_neg hd]
     refine decide_eq_false ?_
     simp only [powD]
     unfold rightD
     omega
    rw [hk e (by omega),hk e' (by omega)]
    rfl
 ·rw [if_neg hl,if_neg hl]
def sgI (v : Val) : Int:=if v.digs = [] then 0 else if v.neg then -1 else 1
def CanV (v : Val) : Prop:=(v.digs = [] -> v.neg = false /\ v.pow = 0) /\ v.digs.head? ≠ some 48 /\ v.digs.getLast? ≠ some 48 /\ v.digs.all dig = true
end Go.Proofs.YtbnppjmmlfncmaaGreatDoor.Nm
namespace Go.Proofs.YtbnppjmmlfncmaaGreatDoor
structure Ev where
 k : Int
 t : ByteArray
 v : ByteArray
structure Pt where
 kind : Int
 last : Int
 keys : List (List UInt8)
def topP : Pt:=⟨0,0,[]⟩
def validL (l : List UInt8) : Bool:=decide (l.length <= 48) && (runesL l).isSome
def normL (l : List UInt8) : Bool:=match Nm.readL l with | some v => decide (Nm.formL v = l) | none => false
def bareK (k : Int) : Bool:=decide (k = 1 \/ k = 5 \/ k = 6 \/ k = 7 \/ k = 9 \/ k = 12)
def opensK (k : Int) : Bool:=decide (k = 5 \/ k = 7 \/ k = 10)
def endsK (k : Int) : Bool:=decide (k = 6 \/ k = 9 \/ k = 12)
def valueK (k : Int) : Bool:=decide (k = 1 \/ k = 2 \/ k = 3 \/ k = 4 \/ k = 5 \/ k = 7 \/ k = 10)
def emptyT (s : ByteArray) : Bool:=decide (s.data.toList = [])
def fullL (l : List UInt8) : Bool:=(cutL l).isSome
def boolL (l : List UInt8) : Bool:=decide (l = [116,114,117,101]) || decide (l = [102,97,108,115,101])
def formedB (x : Ev) : Bool :=
 if bareK x.k then emptyT x.t && emptyT x.v
 else if x.k = 2 then emptyT x.v && boolL x.t.data.toList
 else if x.k = 3 then emptyT x.v && normL x.t.data.toList
 else if x.k = 4 \/ x.k = 8 then emptyT x.v && validL x.t.data.toList
 else if x.k = 10 then emptyT x.v && fullL x.t.data.toList
 else if x.k = 11 then validL x.v.data.toList && fullL x.t.data.toList
 else false
def contElem (last k : Int) (te : Bool) : Bool :=
 if k = 11 then decide (last = 0 \/ last = 11) else if k = 4 then decide (last ≠ 4) && !te else decide (k = 10 \/ k = 12)
def contB (kind last k : Int) (te : Bool) : Bool :=
 if kind = 5 then valueK k || decide (k = 6)
 else if kind = 7 then (if last = 8 then valueK k else decide (k = 8 \/ k = 9))
 else if kind = 10 then contElem last k te
 else decide (last = 0) && valueK k
def stepE : List Pt -> Ev -> Int
 | [],_ => 19
 | p :: r,x =>
  if formedB x = false \/ contB p.kind p.last x.k (emptyT x.t) = false then 19
  else if endsK x.k then 0
  else if opensK x.k then (if 6 <= r.length then 5 else 0)
  else if x.k = 8 \/ x.k = 11 then (if x.t.data.toList ∈ p.keys then 6 else if 10 <= p.keys.length then 7 else 0)
  else 0
def goS : List Pt -> Ev -> List Pt
 | [],_ => []
 | p :: r,x =>
  if endsK x.k then r
  else if opensK x.k then ⟨x.k,0,[]⟩ :: { p with last:=x.k } :: r
  else if x.k = 8 \/ x.k = 11 then { p with last:=x.k,keys:=x.t.data.toList :: p.keys } :: r
  else { p with last:=x.k } :: r
def stepS (st : List Pt) (x : Ev) : List Pt:=if stepE st x = 0 then goS st x else st
def doneB : List Pt -> Bool
 | [p] => decide (p.last ≠ 0)
 | _ => false
def Outer : List Pt -> Prop
 | [] => False
 | [p] => p.kind = 0 /\ p.keys = [] /\ (p.last = 0 \/ valueK p.last = true)
 | p :: q :: r => opensK p.kind = true /\ opensK q.last = true /\ Outer (q :: r)
def Good (st : List Pt) : Prop:=Outer st /\ st.length <= 7
theorem good_start : Good [topP]:=⟨⟨rfl,rfl,.inl rfl⟩,by simp⟩
theorem Good.ne {st : List Pt} (h : Good st) : ∃ p r,st = p :: r:=by
 cases st with
 | nil => exact h.1.elim
 | cons p r => exact ⟨p,r,rfl⟩
theorem opens_value {k : Int} (h : opensK k = true) : valueK k = true:=by
 unfold opensK at h; unfold valueK; rw [decide_eq_true_iff] at h ⊢; omega
theorem outer_last {p : Pt} {r : List Pt} (h : Outer (p :: r)) (k : Int) (hk : r ≠ [] \/ valueK k = true) (ks : List (List UInt8)) (hks : r ≠ [] \/ ks = []) : Outer ({ p with last:=k,keys:=ks } :: r):=by
 cases r with
 | nil =>
  rcases hk with hk | hk
  ·exact absurd rfl hk
  ·rcases hks with hks | hks
   ·exact absurd rfl hks
   ·exact ⟨h.1,hks,.inr hk⟩
 | cons q r => exact ⟨h.1,h.2.1,h.2.2⟩
theorem outer_last' {p : Pt} {r : List Pt} (h : Outer (p :: r)) (k : Int) (hk : r ≠ [] \/ valueK k = true) : Outer ({ p with last:=k } :: r):=by
 cases r with
 | nil =>
  rcases hk with hk | hk
  ·exact absurd rfl hk
  ·exact ⟨h.1,h.2.1,.inr hk⟩
 | cons q r => exact ⟨h.1,h.2.1,h.2.2⟩
theorem top_cont {p : Pt} (h : Outer [p]) {k : Int} {te : Bool} (hc : contB p.kind p.last k te = true) : p.last = 0 /\ valueK k = true:=by
 unfold contB at hc
 rw [h.1,if_neg (by decide),if_neg (by decide),if_neg (by decide),Bool.and_eq_true,decide_eq_true_iff] at hc
 exact hc
theorem cont_of {p : Pt} {r : List Pt} {x : Ev} (h : stepE (p :: r) x = 0) : formedB x = true /\ contB p.kind p.last x.k (emptyT x.t) = true:=by
 simp only [stepE] at h
 split at h
 ·exact absurd h (by decide)
 ·rename_i hn
  rw [not_or,Bool.not_eq_false,Bool.not_eq_false] at hn
  exact hn
theorem ends_not_value {k : Int} (h : endsK k = true) : valueK k = false:=by
 unfold endsK at h; unfold valueK; rw [decide_eq_true_iff] at h; rw [decide_eq_false_iff_not]; omega
theorem depth_of {p : Pt} {r : List Pt} {x : Ev} (h : stepE (p :: r) x = 0) (ho : opensK x.k = true) : r.length < 6:=by
 have hc:=cont_of h
 simp only [stepE] at h
 rw [if_neg (by rw [hc.1,hc.2]; decide),if_neg (by unfold opensK at ho; unfold endsK; rw [decide_eq_true_iff] at ho ⊢; omega),if_pos ho] at h
 split at h
 ·exact absurd h (by decide)
 ·omega
theorem good_step {st : List Pt} (hg : Good st) (x : Ev) : Good (stepS st x):=by
 unfold stepS
 by_cases h : stepE st x = 0
 ·rw [if_pos h]
  obtain ⟨p,r,rfl⟩:=hg.ne
  obtain ⟨hf,hc⟩:=cont_of h
  obtain ⟨ho,hl⟩:=hg
  have hl' : r.length <= 6:=by simpa using hl
  simp only [goS]
  by_cases h1 : endsK x.k = true
  ·rw [if_pos h1]
   cases r with
   | nil =>
    have:=(top_cont ho hc).2
    rw [ends_not_value h1] at this
    cases this
   | cons q r => exact ⟨ho.2.2,by simp at hl' ⊢; omega⟩
  ·rw [if_neg h1]
   by_cases h2 : opensK x.k = true
   ·rw [if_pos h2]
    exact ⟨⟨h2,h2,outer_last' ho _ (.inr (opens_value h2))⟩,by have:=depth_of h h2; simp; omega⟩
   ·rw [if_neg h2]
    by_cases h3 : x.k = 8 \/ x.k = 11
    ·rw [if_pos h3]
     have hr : r ≠ []:=by
      rintro rfl
      have:=(top_cont ho hc).2
      unfold valueK at this
      rw [decide_eq_true_iff] at this
      omega
     exact ⟨outer_last ho _ (.inl hr) _ (.inl hr),hl⟩
    ·rw [if_neg h3]
     refine ⟨outer_last' ho _ ?_,hl⟩
     by_cases hr : r = []
     ·subst hr; exact .inr (top_cont ho hc).2
     ·exact .inl hr
 ·rw [if_neg h]
  exact hg
def runS (st : List Pt) (l : List Ev) : List Pt:=l.foldl stepS st
def allOk : List Pt -> List Ev -> Prop
 | _,[] => True
 | st,x :: l => stepE st x = 0 /\ allOk (stepS st x) l
def wholeGo (i : Nat) (st : List Pt) : List Ev -> Nat × Int
 | [] => (i,if doneB st then 0 else 19)
 | x :: l => if stepE st x = 0 then wholeGo (i + 1) (stepS st x) l else (i,stepE st x)
theorem runS_snoc (st : List Pt) (l : List Ev) (x : Ev) : runS st (l ++ [x]) = stepS (runS st l) x:=by simp [runS]
theorem good_run {st : List Pt} (h : Good st) (l : List Ev) : Good (runS st l):=by
 induction l generalizing st with
 | nil => exact h
 | cons x l ih => exact ih (good_step h x)
theorem allOk_snoc : ∀ (st : List Pt) (l : List Ev) (x : Ev),allOk st (l ++ [x]) ↔ allOk st l /\ stepE (runS st l) x = 0
 | st,[],x => by simp [allOk,runS]
 | st,y :: l,x => by
  have:=allOk_snoc (stepS st y) l x
  simp only [List.cons_append,allOk,this,and_assoc]
  rfl
theorem whole_run : ∀ (i : Nat) (st : List Pt) (l m : List Ev),allOk st l -> wholeGo i st (l ++ m) = wholeGo (i + l.length) (runS st l) m
 | i,st,[],m,_ => rfl
 | i,st,x :: l,m,h => by
  have:=whole_run (i + 1) (stepS st x) l m h.2
  simp only [List.cons_append,wholeGo,if_pos h.1,this,List.length_cons]
  congr 1
  omega
theorem whole_of {l : List Ev} (h : allOk [topP] l) : wholeGo 0 [topP] l = (l.length,if doneB (runS [topP] l) then 0 else 19):=by
 have:=whole_run 0 [topP] l [] h
 rw [List.append_nil] at this
 rw [this]
 simp [wholeGo]
end Go.Proofs.YtbnppjmmlfncmaaGreatDoor
