/-
  Quoted strings as plain functions on bytes: the machine of steps, its run, what is printed, and that it is read again. No program is read here.
  quote: the values of digits and letters, the map of escapes; a Quote is a block of four cells, and add, Text, endEscape turn it.
  quote: New, denoted, add, Text, endEscape: a Quote is a block of four cells, and what was said lies in a row of its own.
  quote: letter, digit and Step: what a byte does is the machine's step.
-/
import Derived.Test.YtbnppjmmlfncmaaGreatDoorIrA02
import Derived.Test.YtbnppjmmlfncmaaGreatDoorIrA04
import Derived.Test.YtbnppjmmlfncmaaGreatDoorIrA01
import Derived.Maps.OwnSet
import Derived.Maps.OwnOps
set_option maxRecDepth 100000
set_option linter.unusedSectionVars false
namespace Go.Proofs.YtbnppjmmlfncmaaGreatDoor.Qt
structure QS where
 xs : List UInt8
 st : Int
 d : Int
 n : Int
structure QR where
 done : Bool
 e : Int
 q : QS
def escI (b : Int) : Int:=if b = 34 \/ b = 92 \/ b = 47 then b else if b = 110 then 10 else if b = 116 then 9 else if b = 114 then 13 else if b = 98 then 8 else if b = 102 then 12 else -1
def hexI (b : Int) : Int:=if 48 <= b /\ b <= 57 then b - 48 else if 97 <= b /\ b <= 102 then b - 97 + 10 else if 65 <= b /\ b <= 70 then b - 65 + 10 else -1
def plainQ (xs : List UInt8) : QS:=⟨xs,0,0,0⟩
def qAdd (q : QS) (ch : List UInt8) : QR:=if 48 < q.xs.length + ch.length then ⟨false,4,q⟩ else ⟨false,0,plainQ (q.xs ++ ch)⟩
def qLetter (q : QS) (b : Int) : QR:=if b = 117 then ⟨false,0,⟨q.xs,2,0,0⟩⟩ else if escI b < 0 then ⟨false,9,q⟩ else qAdd q [b8 (escI b)]
def qDigit (q : QS) (b : Int) : QR :=
 if hexI b < 0 then ⟨false,9,q⟩ else if q.d < 3 then ⟨false,0,⟨q.xs,2,q.d + 1,q.n * 16 + hexI b⟩⟩
 else if mayB (q.n * 16 + hexI b) = true then qAdd q (putL (q.n * 16 + hexI b)) else ⟨false,9,q⟩
def qPlain (q : QS) (b : Int) : QR :=
 if b < 32 then ⟨false,2,q⟩ else if b = 34 then ⟨true,0,⟨q.xs,3,0,0⟩⟩ else if b = 92 then ⟨false,0,⟨q.xs,1,0,0⟩⟩ else qAdd q [b8 b]
def qStep (q : QS) (b : Int) : QR:=if q.st = 1 then qLetter q b else if q.st = 2 then qDigit q b else if q.st = 3 then ⟨false,2,q⟩ else qPlain q b
def QInv (q : QS) : Prop:=q.xs.length <= 48 /\ (q.st = 0 \/ q.st = 1 \/ q.st = 3 \/ (q.st = 2 /\ 0 <= q.n /\ ((q.d = 0 /\ q.n = 0) \/ (q.d = 1 /\ q.n < 16) \/ (q.d = 2 /\ q.n < 256) \/ (q.d = 3 /\ q.n < 4096))))
theorem hexI_lt (b : Int) : hexI b < 16:=by unfold hexI; repeat' split <;> omega
theorem escI_lt (b : Int) : escI b < 256:=by unfold escI; repeat' split <;> omega
theorem qInv0 : QInv (plainQ []):=⟨by simp [plainQ],.inl rfl⟩
theorem qInv_plain {xs : List UInt8} (h : xs.length <= 48) : QInv (plainQ xs):=⟨h,.inl rfl⟩
theorem qInv_add {q : QS} {ch : List UInt8} (h : QInv q) : QInv (qAdd q ch).q:=by
 unfold qAdd
 split
 ·exact h
 ·exact qInv_plain (by simp; omega)
theorem qInv_step {q : QS} {b : Int} (h : QInv q) : QInv (qStep q b).q:=by
 unfold qStep
 split
 ·unfold qLetter
  split
  ·exact ⟨h.1,.inr (.inr (.inr ⟨rfl,by simp,.inl ⟨rfl,rfl⟩⟩))⟩
  ·split
   ·exact h
   ·exact qInv_add h
 ·split
  ·unfold qDigit
   have:=hexI_lt b
   rename_i h2
   obtain ⟨hl,hs⟩:=h
   split
   ·exact ⟨hl,hs⟩
   ·split
    ·refine ⟨hl,.inr (.inr (.inr ⟨rfl,?_⟩))⟩
     simp only
     omega
    ·split
     ·exact qInv_add ⟨hl,hs⟩
     ·exact ⟨hl,hs⟩
  ·split
   ·exact h
   ·unfold qPlain
    split
    ·exact h
    ·split
     ·exact ⟨h.1,.inr (.inr (.inl rfl))⟩
     ·split
      ·exact ⟨h.1,.inr (.inl rfl)⟩
      ·exact qInv_add h
structure QE where
 text : List UInt8
 n : Nat
 done : Bool
 e : Int
def qRun : QS -> Nat -> List UInt8 -> QE
 | q,i,[] => ⟨q.xs,i,false,0⟩
 | q,i,b :: t => if (qStep q (b.toNat : Int)).done = true \/ (qStep q (b.toNat : Int)).e ≠ 0 then ⟨(qStep q (b.toNat : Int)).q.xs,i,(qStep q (b.toNat : Int)).done,(qStep q (b.toNat : Int)).e⟩ else qRun (qStep q (b.toNat : Int)).q (i + 1) t
def qAll (l : List UInt8) : QE:=qRun (plainQ []) 0 l
theorem qRun_on {q q' : QS} {i : Nat} {b : UInt8} {t : List UInt8} (h : qStep q (b.toNat : Int) = ⟨false,0,q'⟩) : qRun q i (b :: t) = qRun q' (i + 1) t:=by
 rw [qRun,h]; simp
theorem qRun_done {q q' : QS} {i : Nat} {b : UInt8} {t : List UInt8} (h : qStep q (b.toNat : Int) = ⟨true,0,q'⟩) : qRun q i (b :: t) = ⟨q'.xs,i,true,0⟩:=by
 rw [qRun,h]; simp
theorem qAdd_ok {q : QS} {ch : List UInt8} (h : q.xs.length + ch.length <= 48) : qAdd q ch = ⟨false,0,plainQ (q.xs ++ ch)⟩:=by unfold qAdd; rw [if_neg (by omega)]
def hexD (n : Int) : Int:=if n < 10 then 48 + n else 87 + n
def prB (b : UInt8) : List UInt8 :=
 if (b.toNat : Int) = 34 \/ (b.toNat : Int) = 92 then [92,b] else if (b.toNat : Int) = 10 then [92,110] else if (b.toNat : Int) = 9 then [92,116] else if (b.toNat : Int) = 13 then [92,114]
 else if (b.toNat : Int) < 32 then [92,117,48,48,b8 (hexD (b.toNat / 16)),b8 (hexD (b.toNat % 16))] else [b]
def prAll (l : List UInt8) : List UInt8:=l.flatMap prB
def printL (l : List UInt8) : List UInt8:=34 :: (prAll l ++ [34])
theorem hexI_hexD (n : Int) (h0 : 0 <= n) (h1 : n < 16) : hexI (hexD n) = n:=by
 unfold hexD
 split
 ·unfold hexI; rw [if_pos (by omega)]; omega
 ·unfold hexI; rw [if_neg (by omega),if_pos (by omega)]; omega
theorem hexD_rg (n : Int) (h0 : 0 <= n) (h1 : n < 16) : 0 <= hexD n /\ hexD n < 256:=by unfold hexD; split <;> omega
theorem b8_of (b : UInt8) : b8 (b.toNat : Int) = b:=by unfold b8; simp
theorem prB_len (b : UInt8) : 1 <= (prB b).length /\ (prB b).length <= 6:=by
 unfold prB
 repeat' split
 all_goals simp
theorem step_stroke (xs : List UInt8) : qStep (plainQ xs) 92 = ⟨false,0,⟨xs,1,0,0⟩⟩:=rfl
theorem step_u (xs : List UInt8) : qStep ⟨xs,1,0,0⟩ 117 = ⟨false,0,⟨xs,2,0,0⟩⟩:=rfl
theorem step_letter (xs : List UInt8) (b : Int) (h : b ≠ 117) (he : 0 <= escI b) (hl : xs.length + 1 <= 48) : qStep ⟨xs,1,0,0⟩ b = ⟨false,0,plainQ (xs ++ [b8 (escI b)])⟩:=by
 show qLetter _ b = _
 unfold qLetter
 rw [if_neg h,if_neg (by omega)]
 exact qAdd_ok (by simpa using hl)
theorem step_digit (xs : List UInt8) (d n v : Int) (h0 : 0 <= v) (h1 : v < 16) (hd : d < 3) : qStep ⟨xs,2,d,n⟩ (hexD v) = ⟨false,0,⟨xs,2,d + 1,n * 16 + v⟩⟩:=by
 show qDigit _ _ = _
 unfold qDigit
 rw [hexI_hexD v h0 h1,if_neg (by omega),if_pos hd]
theorem step_last (xs : List UInt8) (n v : Int) (h0 : 0 <= v) (h1 : v < 16) (hm : mayB (n * 16 + v) = true) (hl : xs.length + (putL (n * 16 + v)).length <= 48) : qStep ⟨xs,2,3,n⟩ (hexD v) = ⟨false,0,plainQ (xs ++ putL (n * 16 + v))⟩:=by
 show qDigit _ _ = _
 unfold qDigit
 rw [hexI_hexD v h0 h1,if_neg (by omega),if_neg (show ¬ (3 : Int) < 3 by omega),if_pos hm]
 exact qAdd_ok hl
theorem step_char (xs : List UInt8) (b : Int) (h : 32 <= b) (h1 : b ≠ 34) (h2 : b ≠ 92) (hl : xs.length + 1 <= 48) : qStep (plainQ xs) b = ⟨false,0,plainQ (xs ++ [b8 b])⟩:=by
 show qPlain _ b = _
 unfold qPlain
 rw [if_neg (by omega),if_neg h1,if_neg h2]
 exact qAdd_ok (by simpa [plainQ] using hl)
theorem run_pr (xs : List UInt8) (b : UInt8) (i : Nat) (rest : List UInt8) (hl : xs.length + 1 <= 48) : qRun (plainQ xs) i (prB b ++ rest) = qRun (plainQ (xs ++ [b])) (i + (prB b).length) rest:=by
 have hb:=byte_le b
 unfold prB
 split
 ·rename_i h
  have e : escI (b.toNat : Int) = b.toNat:=by unfold escI; rw [if_pos (by omega)]
  have s2:=step_letter xs (b.toNat : Int) (by omega) (by omega) hl
  rw [e,b8_of] at s2
  simp only [List.cons_append,List.nil_append]
  rw [qRun_on (b:=92) (step_stroke xs),qRun_on s2]
  rfl
 ·split
  ·rename_i h
   have s2:=step_letter xs 110 (by decide) (by decide) hl
   rw [show escI 110 = (b.toNat : Int) from by rw [h]; rfl,b8_of] at s2
   simp only [List.cons_append,List.nil_append]
   rw [qRun_on (b:=92) (step_stroke xs),qRun_on (b:=110) s2]
   rfl
  ·split
   ·rename_i h
    have s2:=step_letter xs 116 (by decide) (by decide) hl
    rw [show escI 116 = (b.toNat : Int) from by rw [h]; rfl,b8_of] at s2
    simp only [List.cons_append,List.nil_append]
    rw [qRun_on (b:=92) (step_stroke xs),qRun_on (b:=116) s2]
    rfl
   ·split
    ·rename_i h
     have s2:=step_letter xs 114 (by decide) (by decide) hl
     rw [show escI 114 = (b.toNat : Int) from by rw [h]; rfl,b8_of] at s2
     simp only [List.cons_append,List.nil_append]
     rw [qRun_on (b:=92) (step_stroke xs),qRun_on (b:=114) s2]
     rfl
    ·split
     ·rename_i h
      have q0 : 0 <= (b.toNat : Int) / 16 /\ (b.toNat : Int) / 16 < 16:=by omega
      have q1 : 0 <= (b.toNat : Int) % 16 /\ (b.toNat : Int) % 16 < 16:=by omega
      have r0:=hexD_rg _ q0.1 q0.2
      have r1:=hexD_rg _ q1.1 q1.2
      have s3 : qStep ⟨xs,2,0,0⟩ 48 = ⟨false,0,⟨xs,2,1,0⟩⟩:=step_digit xs 0 0 0 (by decide) (by decide) (by decide)
      have s4 : qStep ⟨xs,2,1,0⟩ 48 = ⟨false,0,⟨xs,2,2,0⟩⟩:=step_digit xs 1 0 0 (by decide) (by decide) (by decide)
      have s5 : qStep ⟨xs,2,2,0⟩ (hexD ((b.toNat : Int) / 16)) = ⟨false,0,⟨xs,2,3,0 * 16 + (b.toNat : Int) / 16⟩⟩:=step_digit xs 2 0 _ q0.1 q0.2 (by decide)
      have hv : (0 * 16 + (b.toNat : Int) / 16) * 16 + (b.toNat : Int) % 16 = b.toNat:=by omega
      have hp : putL (b.toNat : Int) = [b]:=by unfold putL; rw [if_pos (by omega),b8_of]
      have s6:=step_last xs (0 * 16 + (b.toNat : Int) / 16) _ q1.1 q1.2 (by rw [hv]; unfold mayB; rw [decide_eq_true_iff]; omega) (by rw [hv,hp]; exact hl)
      rw [hv,hp] at s6
      rw [<- b8_nat _ r0.1 r0.2] at s5
      rw [<- b8_nat _ r1.1 r1.2] at s6
      simp only [List.cons_append,List.nil_append]
      rw [qRun_on (b:=92) (step_stroke xs),qRun_on (b:=117) (step_u xs),qRun_on (b:=48) s3,qRun_on (b:=48) s4,qRun_on s5,qRun_on s6]
      rfl
     ·have s1:=step_char xs (b.toNat : Int) (by omega) (by omega) (by omega) hl
      rw [b8_of] at s1
      simp only [List.cons_append,List.nil_append]
      rw [qRun_on s1]
      rfl
theorem run_prAll (l : List UInt8) : ∀ (xs : List UInt8) (i : Nat) (rest : List UInt8),xs.length + l.length <= 48 -> qRun (plainQ xs) i (prAll l ++ rest) = qRun (plainQ (xs ++ l)) (i + (prAll l).length) rest:=by
 induction l with
 | nil => intro xs i rest _; simp [prAll]
 | cons b t ih =>
  intro xs i rest h
  simp only [List.length_cons] at h
  have e : prAll (b :: t) = prB b ++ prAll t:=by simp [prAll]
  rw [e,List.append_assoc,run_pr xs b i _ (by omega),ih (xs ++ [b]) _ rest (by simp; omega)]
  simp only [List.append_assoc,List.cons_append,List.nil_append,List.length_append,Nat.add_assoc]
theorem quote_step (xs : List UInt8) : qStep (plainQ xs) 34 = ⟨true,0,⟨xs,3,0,0⟩⟩:=rfl
theorem all_print (l : List UInt8) (h : l.length <= 48) : qAll ((printL l).drop 1) = ⟨l,(printL l).length - 2,true,0⟩:=by
 unfold qAll printL
 rw [List.drop_succ_cons,List.drop_zero,run_prAll l [] 0 [34] (by simpa using h)]
 rw [qRun_done (b:=34) (quote_step _)]
 simp
theorem prAll_len (l : List UInt8) : l.length <= (prAll l).length /\ (prAll l).length <= 6 * l.length:=by
 induction l with
 | nil => simp [prAll]
 | cons b t ih =>
  have e : prAll (b :: t) = prB b ++ prAll t:=by simp [prAll]
  have:=prB_len b
  rw [e,List.length_append,List.length_cons]
  omega
theorem prAll_snoc (l : List UInt8) (b : UInt8) : prAll (l ++ [b]) = prAll l ++ prB b:=by simp [prAll]
theorem printL_len (l : List UInt8) : (printL l).length = (prAll l).length + 2:=by simp [printL]
open Go.RowKit Go.Maps
variable [Fo]
section
variable {P : Program} {w : World}
theorem wp_appS {ops : Array Oper} {rest : List Oper} {o : Oper} {a : Act} {Q : Exit -> Act -> World -> Prop} (hgd : o.guard = none) (s x : Operand) (t : TypeId)
 (ho : o.op = .call { callee:=.builtin .append,args:=#[s,x],argTypes:=#[t,t] })
 (base : Nat) (e : TypeId) (z : Value) (bytes : Nat) (ht : P.underlying t = some (.slice e)) (hinfo : (P.info? e).map (fun i => (i.zero,i.size,i.bytes)) = some (some z,1,bytes)) (hz1 : z.cells.size = 1)
 (v : Value) (xs news : List Value) (hs : a.eval s = v) (hown : ORow w base e v xs) (hu : ∀ u ∈ news,u.oneCell' = true)
 (A : Addr) (m c : Nat) (hm : news.length = m) (hx : a.eval x = .slice (some A) m c) (hc : ∀ j u,news[j]? = some u -> w.cell? (A.add j) = some u)
 (h63 : xs.length + m <= maxLen) (hbytes : (xs.length + m) * bytes <= 140737488355328) (hbase : base <= w.heap.size)
 (h : ∀ v' w',ORow w' base e v' (xs ++ news) -> Below base w w' -> wpList P ops Q rest (a.put o.dst v') w') :
 wpList P ops Q (o :: rest) a w:=by
 obtain ⟨i,hi,hz,hsize,hby⟩:=info_parts hinfo
 refine wpList_plain hgd fun K hK => ?_
 obtain ⟨v',w',hrun,h2,h3,_,h5⟩:=run_append_own_at (P:=P) w base t o.type e i z 1 bytes ht hi hz hsize hby hz1 (by decide) v xs.length xs hown
  A m c news (by simp [hm]) hc hu h63 hbytes hbase
 unfold Oper.wp execOp
 simp only [ho,resolve,invoke,builtin,Sem.run_bind,Sem.run_pure,Result.andThen_ok,List.map_toArray,List.map_cons,List.map_nil,hs,hx,hrun]
 refine hK _ _ (h v' w' ?_ ?_)
 ·unfold ORow
  rw [List.length_append,hm]
  exact h2
 ·refine ⟨h3.os,h3.tape,h3.output,h3.size,fun k hk => h3.block k (by omega) fun hcc => ?_⟩
  have:=World.ownsRow.lt hown k hcc.symm
  omega
end
section
variable {P : Program} {w : World}
theorem wp_appSg {ops : Array Oper} {rest : List Oper} {o : Oper} {a : Act} {Q : Exit -> Act -> World -> Prop} (hgd : o.guard = none) (s x : Operand) (t : TypeId)
 (ho : o.op = .call { callee:=.builtin .append,args:=#[s,x],argTypes:=#[t,t] })
 (base : Nat) (e : TypeId) (z : Value) (bytes : Nat) (ht : P.underlying t = some (.slice e)) (hinfo : (P.info? e).map (fun i => (i.zero,i.size,i.bytes)) = some (some z,1,bytes)) (hz1 : z.cells.size = 1)
 (v : Value) (xs news : List Value) (hs : a.eval s = v) (hown : ORow w base e v xs) (hu : ∀ u ∈ news,u.oneCell' = true)
 (A : Addr) (m c : Nat) (hm : news.length = m) (hx : a.eval x = .slice (some A) m c) (hc : ∀ j u,news[j]? = some u -> w.cell? (A.add j) = some u)
 (h63 : xs.length + m <= maxLen) (hbytes : (xs.length + m) * bytes <= 140737488355328) (hbase : base <= w.heap.size)
 (h : ∀ v' w',ORow w' base e v' (xs ++ news) -> w.grownBy w' v.ownBlock -> NB w v v' -> wpList P ops Q rest (a.put o.dst v') w') :
 wpList P ops Q (o :: rest) a w:=by
 obtain ⟨i,hi,hz,hsize,hby⟩:=info_parts hinfo
 refine wpList_plain hgd fun K hK => ?_
 obtain ⟨v',w',hrun,h2,h3,_,h5⟩:=run_append_own_at (P:=P) w base t o.type e i z 1 bytes ht hi hz hsize hby hz1 (by decide) v xs.length xs hown
  A m c news (by simp [hm]) hc hu h63 hbytes hbase
 unfold Oper.wp execOp
 simp only [ho,resolve,invoke,builtin,Sem.run_bind,Sem.run_pure,Result.andThen_ok,List.map_toArray,List.map_cons,List.map_nil,hs,hx,hrun]
 refine hK _ _ (h v' w' ?_ h3 (h5.imp id fun e => ⟨_,e,Nat.le_refl _⟩))
 unfold ORow
 rw [List.length_append,hm]
 exact h2
end
theorem _root_.Go.Proofs.YtbnppjmmlfncmaaGreatDoor.ORow.set_farQ {w : World} {base : Nat} {e : TypeId} {v : Value} {xs : List Value} (h : ORow w base e v xs) {p : Addr} (hp : p.block < base) (u : Value) : ORow (w.setCell p u) base e v xs:=by
 refine ⟨h.1,?_⟩
 rcases h.2 with hn | ⟨g,cap,cur,hv,hg,hh,r⟩
 ·exact .inl hn
 ·exact .inr ⟨g,cap,cur,hv,hg,(Below.heap_setCell w p u g (by omega)).trans hh,r⟩
theorem ret_pair {a b : Int} {x y : Bool} (h : a = b) (h' : x = y) : Ending.returned (.tuple #[.int .i64 a,.bool x]) = .returned (.tuple #[.int .i64 b,.bool y]):=by rw [h,h']
def hexV (b : Int) : Int:=if hexI b < 0 then 0 else hexI b
theorem dig_any (b : Int) (h0 : 0 <= b) (h1 : b <= 255) (w : World) :
 Calls Tryz.prog 280 #[.int .u8 b] w fun e w' => e = .returned (.tuple #[.int .i64 (hexV b),.bool (decide (0 <= hexI b))]) /\ w = w':=by
 go_enter Tryz.func280,Tryz.ntmps280
 go_wp2
 all_goals go_ret2
 all_goals refine ⟨ret_pair ?_ ?_,rfl⟩
 all_goals try rw [Bool.eq_iff_iff,decide_eq_true_eq]
 all_goals simp only [hexV,hexI]
 all_goals repeat (first | rw [if_pos (by omega)] | rw [if_neg (by omega)])
 all_goals first | omega | (simp; omega) | simp
def denPairs : List (Int × Int):=[(34,34),(92,92),(47,47),(110,10),(116,9),(114,13),(98,8),(102,12)]
def denD : DataW Unit:=denPairs.foldl (fun m p => m.put (.int .u8 p.1) (.lit (.int .u8 p.2))) (.map [])
theorem keyLaw : Keyed Tryz.prog 5:=int_keyed Tryz.underlying5
theorem zeroB (w : World) : (zeroValue 5).run Tryz.prog w = .ok (.int .u8 0) w:=by kernel_rfl
theorem wf_b {b : Int} (h0 : 0 <= b) (h1 : b <= 255) : (Lit.int .u8 b).wf = true:=by simp [Lit.wf,IntKind.min,IntKind.max,IntKind.signed,IntKind.bits]; omega
theorem has_put1 (D : DataW Unit) (hD : IsMap D) (a k : Int) (d : DataW Unit) : Maps.has (D.put (.int .u8 a) d) (.int .u8 k) = if k = a then true else Maps.has D (.int .u8 k):=by
 split
 ·rename_i h
  subst h
  exact has_put_same hD (by simp [WideAt.IsKeyLit]) d
 ·rename_i h
  exact has_put_other (by intro hc; injection hc with _ hc; exact h hc) d
theorem at_put1 (D : DataW Unit) (hD : IsMap D) (a k : Int) (d z : DataW Unit) : (D.put (.int .u8 a) d).atKey (.int .u8 k) z = if k = a then d else D.atKey (.int .u8 k) z:=by
 split
 ·rename_i h
  subst h
  exact atKey_put_same hD (by simp [WideAt.IsKeyLit]) d z
 ·rename_i h
  exact atKey_put_other (by intro hc; injection hc with _ hc; exact h hc) d z
theorem den_has (b : Int) : Maps.has denD (.int .u8 b) = decide (0 <= escI b):=by
 have hm:=isMap_empty (H:=Unit)
 simp only [denD,denPairs,List.foldl_cons,List.foldl_nil]
 repeat rw [has_put1 _ (by repeat (first | exact hm | apply IsMap.put))]
 unfold escI
 repeat' split
 all_goals first | rfl | (exfalso; omega) | simp_all
theorem den_at (b : Int) (h : 0 <= escI b) : denD.atKey (.int .u8 b) (.lit (.int .u8 0)) = .lit (.int .u8 (escI b)):=by
 have hm:=isMap_empty (H:=Unit)
 simp only [denD,denPairs,List.foldl_cons,List.foldl_nil]
 repeat rw [at_put1 _ (by repeat (first | exact hm | apply IsMap.put))]
 unfold escI at h ⊢
 repeat' split
 all_goals first | rfl | (exfalso; omega) | simp_all
end Go.Proofs.YtbnppjmmlfncmaaGreatDoor.Qt
namespace Go.Proofs.YtbnppjmmlfncmaaGreatDoor.Qt
open Go.RowKit Go.Maps
variable [Fo]
def QRaw (w : World) (g : Nat) (xs : List UInt8) (st d n : Int) : Prop :=
 ∃ v,Blk w g 266 #[v,.int .i64 st,.int .i64 d,.int .i64 n] /\ ORow w (g + 1) 5 v (xs.map bV) /\ NF v /\ ¬ Fo.F g /\ Fo.lim <= w.heap.size
def qObj : Obj -> Prop
 | .cells _ t _ => t = 266 \/ t = 5
 | _ => False
theorem size_set (w : World) (p : Addr) (u : Value) : (w.setCell p u).heap.size = w.heap.size:=by simp [World.setCell]
def QAt (w : World) (g : Nat) (q : QS) : Prop:=∃ d n,QRaw w g q.xs q.st d n /\ (q.st = 2 -> d = q.d /\ n = q.n)
theorem QRaw.lt {w : World} {g : Nat} {xs : List UInt8} {st d n : Int} (h : QRaw w g xs st d n) : g < w.heap.size:=by obtain ⟨v,hb,_⟩:=h; exact hb.lt
theorem QAt.lt {w : World} {g : Nat} {q : QS} (h : QAt w g q) : g < w.heap.size:=by obtain ⟨_,_,h,_⟩:=h; exact h.lt
theorem QRaw.below {w w' : World} {g : Nat} {xs : List UInt8} {st d n : Int} (h : QRaw w g xs st d n) (hb : Below w.heap.size w w') : QRaw w' g xs st d n:=by
 obtain ⟨v,hk,ho,h1,h2,h3⟩:=h
 exact ⟨v,hk.below hb hk.lt,ho.below hb (fun g' hg => (World.ownsRow.lt ho g' hg).2),h1,h2,Nat.le_trans h3 hb.size⟩
theorem QAt.below {w w' : World} {g : Nat} {q : QS} (h : QAt w g q) (hb : Below w.heap.size w w') : QAt w' g q:=by
 obtain ⟨d,n,h,h'⟩:=h
 exact ⟨d,n,h.below hb,h'⟩
theorem QRaw.set {w : World} {g : Nat} {xs : List UInt8} {st d n : Int} (h : QRaw w g xs st d n) (st' : Int) : QRaw (w.setCell ⟨g,1,none⟩ (.int .i64 st')) g xs st' d n:=by
 obtain ⟨v,hk,ho,h1,h2,h3⟩:=h
 exact ⟨v,hk.set_ 1 _,ho.set_farQ (by simp) _,h1,h2,by rw [size_set]; exact h3⟩
theorem QRaw.set2 {w : World} {g : Nat} {xs : List UInt8} {st d n : Int} (h : QRaw w g xs st d n) (d' : Int) : QRaw (w.setCell ⟨g,2,none⟩ (.int .i64 d')) g xs st d' n:=by
 obtain ⟨v,hk,ho,h1,h2,h3⟩:=h
 exact ⟨v,hk.set_ 2 _,ho.set_farQ (by simp) _,h1,h2,by rw [size_set]; exact h3⟩
theorem QRaw.set3 {w : World} {g : Nat} {xs : List UInt8} {st d n : Int} (h : QRaw w g xs st d n) (n' : Int) : QRaw (w.setCell ⟨g,3,none⟩ (.int .i64 n')) g xs st d n':=by
 obtain ⟨v,hk,ho,h1,h2,h3⟩:=h
 exact ⟨v,hk.set_ 3 _,ho.set_farQ (by simp) _,h1,h2,by rw [size_set]; exact h3⟩
theorem QRaw.touch {w : World} {g : Nat} {xs : List UInt8} {st d n : Int} (h : QRaw w g xs st d n) (i : Nat) (u : Value) : Tch g qObj w (w.setCell ⟨g,i,none⟩ u):=by
 obtain ⟨v,hk,_,_,hf,_⟩:=h
 exact (Tch.refl _ _ _).set hk (Nat.le_refl _) hf (.inl rfl) i u
theorem qnew_any (w : World) (hfl : Fo.lim <= w.heap.size) : Calls Tryz.prog 270 #[] w fun e w' => e = .returned (.pointer (some ⟨w.heap.size,0,none⟩)) /\ QAt w' w.heap.size (plainQ []) /\ Below w.heap.size w w':=by
 go_enter Tryz.func270,Tryz.ntmps270
 go_wp2
 go_ret
 exact ⟨rfl,⟨0,0,⟨_,Blk.new w _ _,ORow.nil _ _ _,NF.nil,nf_new hfl,by simp; omega⟩,fun h => by cases h⟩,(Below.refl _ _).alloc (Nat.le_refl _) _⟩
theorem den_any (w : World) : Calls Tryz.prog 278 #[] w fun e w' => ∃ B,e = .returned (.map (some B)) /\ w'.ownsMap Tryz.prog 5 (plainElem Tryz.prog 5) B 8 denD /\ Below w.heap.size w w':=by
 have hmm:=@run_makeMap Tryz.prog
 have hown0:=World.ownsMap_made (H:=Unit) w Tryz.prog 5 (plainElem Tryz.prog 5)
 go_enter Tryz.func278,Tryz.ntmps278
 go_wp2
 obtain ⟨w1,hrun,hown1,hg1⟩:=hown0.update (t:=278) (key:=.int .u8 34) (val:=.int .u8 34) keyLaw Tryz.underlying278 (by simp [maxLen]) (keyOf_int_mk Tryz.underlying5 (by decide)) (plainElem_int Tryz.underlying5 (by decide))
 rw [hrun]
 clear hrun
 go_wp2
 obtain ⟨w2,hrun,hown2,hg2⟩:=hown1.update (t:=278) (key:=.int .u8 92) (val:=.int .u8 92) keyLaw Tryz.underlying278 (by simp [maxLen]) (keyOf_int_mk Tryz.underlying5 (by decide)) (plainElem_int Tryz.underlying5 (by decide))
 rw [hrun]
 clear hrun
 go_wp2
 obtain ⟨w3,hrun,hown3,hg3⟩:=hown2.update (t:=278) (key:=.int .u8 47) (val:=.int .u8 47) keyLaw Tryz.underlying278 (by simp [maxLen]) (keyOf_int_mk Tryz.underlying5 (by decide)) (plainElem_int Tryz.underlying5 (by decide))
 rw [hrun]
 clear hrun
 go_wp2
 obtain ⟨w4,hrun,hown4,hg4⟩:=hown3.update (t:=278) (key:=.int .u8 110) (val:=.int .u8 10) keyLaw Tryz.underlying278 (by simp [maxLen]) (keyOf_int_mk Tryz.underlying5 (by decide)) (plainElem_int Tryz.underlying5 (by decide))
 rw [hrun]
 clear hrun
 go_wp2
 obtain ⟨w5,hrun,hown5,hg5⟩:=hown4.update (t:=278) (key:=.int .u8 116) (val:=.int .u8 9) keyLaw Tryz.underlying278 (by simp [maxLen]) (keyOf_int_mk Tryz.underlying5 (by decide)) (plainElem_int Tryz.underlying5 (by decide))
 rw [hrun]
 clear hrun
 go_wp2
 obtain ⟨w6,hrun,hown6,hg6⟩:=hown5.update (t:=278) (key:=.int .u8 114) (val:=.int .u8 13) keyLaw Tryz.underlying278 (by simp [maxLen]) (keyOf_int_mk Tryz.underlying5 (by decide)) (plainElem_int Tryz.underlying5 (by decide))
 rw [hrun]
 clear hrun
 go_wp2
 obtain ⟨w7,hrun,hown7,hg7⟩:=hown6.update (t:=278) (key:=.int .u8 98) (val:=.int .u8 8) keyLaw Tryz.underlying278 (by simp [maxLen]) (keyOf_int_mk Tryz.underlying5 (by decide)) (plainElem_int Tryz.underlying5 (by decide))
 rw [hrun]
 clear hrun
 go_wp2
 obtain ⟨w8,hrun,hown8,hg8⟩:=hown7.update (t:=278) (key:=.int .u8 102) (val:=.int .u8 12) keyLaw Tryz.underlying278 (by simp [maxLen]) (keyOf_int_mk Tryz.underlying5 (by decide)) (plainElem_int Tryz.underlying5 (by decide))
 rw [hrun]
 clear hrun
 go_wp2
 go_ret
 refine ⟨_,rfl,hown8,?_⟩
 have h0 : Below w.heap.size w (w.alloc (.map #[] 0)):=(Below.refl _ _).alloc (Nat.le_refl _) _
 have hs : w.heap.size <= w.heap.size:=Nat.le_refl _
 have h1:=below_only h0 hg1 h0.size hs
 have h2:=below_only h1 hg2 h1.size hs
 have h3:=below_only h2 hg3 h2.size hs
 have h4:=below_only h3 hg4 h3.size hs
 have h5:=below_only h4 hg5 h4.size hs
 have h6:=below_only h5 hg6 h5.size hs
 have h7:=below_only h6 hg7 h6.size hs
 exact below_only h7 hg8 h7.size hs
theorem text_any (w : World) (g : Nat) (xs : List UInt8) (st d n : Int) (hq : QRaw w g xs st d n) :
 Calls Tryz.prog 265 #[.pointer (some ⟨g,0,none⟩)] w fun e w' => e = .returned (.string ⟨xs.toArray⟩) /\ w = w':=by
 obtain ⟨v,hk,ho,_⟩:=hq
 have hc : w.cell? ⟨g,0,none⟩ = some v:=hk.cell 0
 have hstr:=put_str _ ho
 go_enter Tryz.func265,Tryz.ntmps265
 go_wp2
 first | rw [hstr] | skip
 go_wp2
 go_ret
 exact ⟨rfl,rfl⟩
def addE (xs ch : List UInt8) : Int:=if 48 < xs.length + ch.length then 4 else 0
def addX (xs ch : List UInt8) : List UInt8:=if 48 < xs.length + ch.length then xs else xs ++ ch
theorem add_any (w : World) (g : Nat) (xs : List UInt8) (st d n : Int) (hq : QRaw w g xs st d n) (hl : xs.length <= 48) (A : Addr) (ch : List UInt8) (c : Nat) (h4 : ch.length <= 4)
 (hc : ∀ j u,(ch.map bV)[j]? = some u -> w.cell? (A.add j) = some u) :
 Calls Tryz.prog 274 #[.pointer (some ⟨g,0,none⟩),.slice (some A) ch.length c] w fun e w' => e = .returned (.int .i64 (addE xs ch)) /\ QRaw w' g (addX xs ch) st d n /\ Tch g qObj w w':=by
 by_cases hov : 48 < xs.length + ch.length
 ·unfold addE addX
  rw [if_pos hov,if_pos hov]
  have hq':=hq
  obtain ⟨v,hk,ho,_⟩:=hq'
  obtain ⟨A',cap,rfl⟩:=ho.shape
  have hc0 : w.cell? ⟨g,0,none⟩ = some (.slice A' (xs.map bV).length cap):=hk.cell 0
  rw [List.length_map] at hc0
  clear hk ho
  go_enter Tryz.func274,Tryz.ntmps274
  go_wp2
  go_ret
  exact ⟨rfl,hq,Tch.refl _ _ _⟩
 ·unfold addE addX
  rw [if_neg hov,if_neg hov]
  obtain ⟨v,hk,ho,hnf,hfg,hfl⟩:=hq
  have ho':=ho
  obtain ⟨A',cap,hv⟩:=ho'.shape
  subst hv
  clear ho'
  have hc0 : w.cell? ⟨g,0,none⟩ = some (.slice A' xs.length cap):=by have:=hk.cell 0; simpa using this
  have hlt:=hk.lt
  have hvs : (Value.slice A' (xs.map bV).length cap) = .slice A' xs.length cap:=by rw [List.length_map]
  rw [hvs] at ho hk hnf
  have HN:=Lib.hid (And.intro hnf (And.intro hfg hfl))
  clear hnf hfg hfl
  go_enter Tryz.func274,Tryz.ntmps274
  go_wp2_with (first
   | (at_builtin; refine wp_appSg rfl _ _ 39 rfl (g + 1) 5 (.int .u8 0) 1 Tryz.underlying39 Tryz.info5 rfl _ _ (ch.map bV) rfl (by exact ho) (by intro u hu; simp at hu; obtain ⟨b,_,rfl⟩:=hu; rfl) A ch.length c (by simp) rfl hc (by simp [maxLen]; omega) (by simp; omega) (by omega) ?_; intro v1 w1 hown1 hb1 hnb1; obtain ⟨A1,c1,rfl⟩:=hown1.shape; have hk1:=hk.grown hb1 (ho.not_own (Nat.lt_succ_self _)); have HG1:=Lib.hid (And.intro hb1 hnb1); clear hb1 hnb1; have hc1 : w1.cell? ⟨g,0,none⟩ = some (.slice A' xs.length cap):=hk1.cell 0; have hf1:=hk1.frozen 0; have hlt1:=hk1.lt))
  go_ret
  obtain ⟨hb1,hnb1⟩:=HG1.out
  obtain ⟨hnf,hfg,hfl⟩:=HN.out
  refine ⟨rfl,⟨_,hk1.set_ 0 _,?_,hnf.nb (w:=w) ?_ hfl,hfg,by rw [size_set]; exact Nat.le_trans hfl hb1.size⟩,?_⟩
  ·rw [List.map_append]
   rw [List.length_append,List.length_map,List.length_map] at hown1
   exact ORow.set_farQ hown1 (Nat.lt_succ_self _) _
  ·have h:=hnb1
   rw [List.length_append,List.length_map,List.length_map] at h
   exact h
  ·exact (Tch.of_row ho hb1 (Nat.le_succ g) hnf (fun _ => .inr rfl)).set hk1 (Nat.le_refl g) hfg (.inl rfl) 0 _
theorem qadd_eq {q : QS} {ch : List UInt8} : qAdd q ch = ⟨false,addE q.xs ch,if 48 < q.xs.length + ch.length then q else plainQ (q.xs ++ ch)⟩:=by
 unfold qAdd addE; split <;> rfl
theorem end_any (w : World) (g : Nat) (xs : List UInt8) (st d n : Int) (hq : QRaw w g xs st d n) (hl : xs.length <= 48) (A : Addr) (ch : List UInt8) (c : Nat) (h4 : ch.length <= 4)
 (hc : ∀ j u,(ch.map bV)[j]? = some u -> w.cell? (A.add j) = some u) :
 Calls Tryz.prog 279 #[.pointer (some ⟨g,0,none⟩),.slice (some A) ch.length c] w fun e w' => e = .returned (.int .i64 (addE xs ch)) /\ QRaw w' g (addX xs ch) (if 48 < xs.length + ch.length then st else 0) d n /\ Tch g qObj w w':=by
 have hlt:=hq.lt
 by_cases hov : 48 < xs.length + ch.length
 ·have e1 : addE xs ch = 4:=if_pos hov
  rw [if_pos hov,e1]
  go_enter Tryz.func279,Tryz.ntmps279
  go_wp2_with fail
  refine (add_any w g xs st d n hq hl A ch c h4 hc).mono ?_
  rintro e w1 ⟨rfl,hq1,hb1⟩
  rw [e1]
  go_wp2
  go_ret
  exact ⟨rfl,hq1,hb1⟩
 ·have e1 : addE xs ch = 0:=if_neg hov
  rw [if_neg hov,e1]
  go_enter Tryz.func279,Tryz.ntmps279
  go_wp2_with fail
  refine (add_any w g xs st d n hq hl A ch c h4 hc).mono ?_
  rintro e w1 ⟨rfl,hq1,hb1⟩
  rw [e1]
  have hc1 : w1.cell? ⟨g,1,none⟩ = some (.int .i64 st):=by obtain ⟨v,hk,_⟩:=hq1; exact hk.cell 1
  have hf1 : w1.frozen? ⟨g,1,none⟩ = false:=by obtain ⟨v,hk,_⟩:=hq1; exact hk.frozen 1
  have hlt1:=hq1.lt
  go_wp2
  go_ret
  exact ⟨rfl,hq1.set 0,hb1.trans (hq1.touch 1 _)⟩
end Go.Proofs.YtbnppjmmlfncmaaGreatDoor.Qt
namespace Go.Proofs.YtbnppjmmlfncmaaGreatDoor.Qt
open Go.RowKit Go.Maps
variable [Fo]
theorem qat_add {w : World} {g : Nat} {q : QS} {ch : List UInt8} {d n : Int} (h' : q.st = 2 -> d = q.d /\ n = q.n) (h : QRaw w g (addX q.xs ch) (if 48 < q.xs.length + ch.length then q.st else 0) d n) : QAt w g (qAdd q ch).q:=by
 rw [qadd_eq]
 unfold addX at h
 simp only
 split
 ·rename_i hov
  rw [if_pos hov,if_pos hov] at h
  exact ⟨d,n,h,h'⟩
 ·rename_i hov
  rw [if_neg hov,if_neg hov] at h
  exact ⟨d,n,h,fun hc => by cases hc⟩
def Stepd (w : World) (g : Nat) (r : QR) (w' : World) : Prop:=QAt w' g r.q /\ Tch g qObj w w'
theorem letter_u (w : World) (g : Nat) (q : QS) (hq : QAt w g q) :
 Calls Tryz.prog 272 #[.pointer (some ⟨g,0,none⟩),.int .u8 117] w fun e w' => e = .returned (.int .i64 (qLetter q 117).e) /\ Stepd w g (qLetter q 117) w':=by
 obtain ⟨d,n,hq,_⟩:=hq
 have hlt:=hq.lt
 have hq':=hq
 obtain ⟨v,hk,_⟩:=hq'
 have c1 : w.cell? ⟨g,1,none⟩ = some (.int .i64 q.st):=hk.cell 1
 have c2 : w.cell? ⟨g,2,none⟩ = some (.int .i64 d):=hk.cell 2
 have c3 : w.cell? ⟨g,3,none⟩ = some (.int .i64 n):=hk.cell 3
 have f1:=hk.frozen 1
 have f2:=hk.frozen 2
 have f3:=hk.frozen 3
 clear hk
 go_enter Tryz.func272,Tryz.ntmps272
 go_wp2
 go_ret
 exact ⟨rfl,⟨0,0,((hq.set 2).set2 0).set3 0,fun _ => ⟨rfl,rfl⟩⟩,((hq.touch 1 _).trans ((hq.set 2).touch 2 _)).trans (((hq.set 2).set2 0).touch 3 _)⟩
theorem letter_any (w : World) (g : Nat) (q : QS) (b : Int) (h0 : 0 <= b) (h1 : b <= 255) (hq : QAt w g q) (hl : q.xs.length <= 48) :
 Calls Tryz.prog 272 #[.pointer (some ⟨g,0,none⟩),.int .u8 b] w fun e w' => e = .returned (.int .i64 (qLetter q b).e) /\ Stepd w g (qLetter q b) w':=by
 by_cases hu : b = 117
 ·subst hu; exact letter_u w g q hq
 have hub : (b == 117) = false:=beq_eq_false_iff_ne.2 hu
 have hkey:=keyOf_int_mk Tryz.underlying5 (wf_b h0 h1)
 have hhas:=den_has b
 by_cases he : escI b < 0
 ·have hr : qLetter q b = ⟨false,9,q⟩:=by unfold qLetter; rw [if_neg hu,if_pos he]
  rw [hr]
  rw [show decide (0 <= escI b) = false from by simp; omega] at hhas
  have HH:=Lib.hid hhas
  clear hhas hr he hu
  go_enter Tryz.func272,Tryz.ntmps272
  go_wp2_with (first
   | (go_at_call 278; refine (den_any _).mono ?_; rintro e w1 ⟨B,rfl,hown,hb1⟩)
   | (at_lookup; refine wpList_lookup_own_ok_int _ rfl _ _ 278 rfl 5 5 .u8 keyLaw Tryz.underlying278 Tryz.underlying5 (zeroB _) B 8 denD rfl hown _ _ rfl hkey ?_; intro c hat hwc; rw [HH.out]; clear hat))
  go_ret
  exact ⟨rfl,hq.below hb1,Tch.of_below hb1⟩
 ·have hr : qLetter q b = qAdd q [b8 (escI b)]:=by unfold qLetter; rw [if_neg hu,if_neg he]
  have hat0:=den_at b (by omega)
  rw [show decide (0 <= escI b) = true from by simp; omega] at hhas
  have hel:=escI_lt b
  have HH:=Lib.hid hhas
  rw [hr]
  obtain ⟨d,n,hq,h2⟩:=hq
  have hq9:=hq.lt
  have HA:=Lib.hid hat0
  have e0 : (qAdd q [b8 (escI b)]).e = addE q.xs [b8 (escI b)]:=by rw [qadd_eq]
  rw [e0]
  clear hhas hr hu hat0 e0
  go_enter Tryz.func272,Tryz.ntmps272
  go_wp2_with (first
   | (go_at_call 278; refine (den_any _).mono ?_; rintro e w1 ⟨B,rfl,hown,hb1⟩)
   | (at_lookup; refine wpList_lookup_own_ok_int _ rfl _ _ 278 rfl 5 5 .u8 keyLaw Tryz.underlying278 Tryz.underlying5 (zeroB _) B 8 denD rfl hown _ _ rfl hkey ?_; intro c hat hwc; rw [HH.out]))
  have hce : c = escI b:=by
   rw [HA.out] at hat
   injection hat with hat
   injection hat with _ hat
   exact hat.symm
  subst hce
  have hqa : QRaw (w1.alloc (.cells #[.int .u8 (escI b)] 5)) g q.xs q.st d n:=(hq.below hb1).below ((Below.refl _ _).alloc (Nat.le_refl _) _)
  refine (end_any _ g q.xs q.st d n hqa hl ⟨w1.heap.size,0,none⟩ [b8 (escI b)] 1 (by simp) ?_).mono ?_
  ·have:=cell_one_new w1 (.int .u8 (escI b)) 5
   simp only [List.map_cons,List.map_nil]
   rw [bV_b8 _ (by omega) hel]
   exact this
  rintro e w2 ⟨rfl,hq2,hb2⟩
  go_wp2
  go_ret
  refine ⟨rfl,qat_add h2 hq2,?_⟩
  exact ((Tch.of_below hb1).alloc _).trans hb2
end Go.Proofs.YtbnppjmmlfncmaaGreatDoor.Qt
