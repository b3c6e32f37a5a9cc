/-
  Quoted strings as plain functions on bytes: the machine of steps, its run, what is printed, and that it is read again. No program is read here.
  quote: the values of digits and letters, the map of escapes; a Quote is a block of four cells, and add, Text, endEscape turn it.
  quote: New, denoted, add, Text, endEscape: a Quote is a block of four cells, and what was said lies in a row of its own.
  quote: letter, digit and Step: what a byte does is the machine's step.
  quote: digit and Step: what a byte does is the machine's step.
  quote: Step is the machine's step; the steps of a text.
  New, Step and Whole: a Scan is a block of three cells; a step turns that block alone.
  A text stepped through, byte by byte, has characters just if all is whole in the end. No program is read here.
  The steps of a text (hexaplalaw03.all) are the machine's run; isUTF tells whether a text has characters.
-/
import Derived.Test.YtbnppjmmlfncmaaGreatDoorIsA02
import Derived.Test.YtbnppjmmlfncmaaGreatDoorIsA05
import Derived.Maps.OwnSet
import Derived.Maps.OwnOps
import Derived.Lib.Strings
set_option maxRecDepth 100000
namespace Go.Proofs.YtbnppjmmlfncmaaGreatDoor.Qt
structure QS where
 xs : List UInt8
 st : Int
 d : Int
 n : Int
structure QR where
 done : Bool
 e : Int
 q : QS
def escI (b : Int) : Int:=if b = 34 \/ b = 92 \/ b = 47 then b else if b = 110 then 10 else if b = 116 then 9 else if b = 114 then 13 else if b = 98 then 8 else if b = 102 then 12 else -1
def hexI (b : Int) : Int:=if 48 <= b /\ b <= 57 then b - 48 else if 97 <= b /\ b <= 102 then b - 97 + 10 else if 65 <= b /\ b <= 70 then b - 65 + 10 else -1
def plainQ (xs : List UInt8) : QS:=⟨xs,0,0,0⟩
def qAdd (q : QS) (ch : List UInt8) : QR:=if 48 < q.xs.length + ch.length then ⟨false,4,q⟩ else ⟨false,0,plainQ (q.xs ++ ch)⟩
def qLetter (q : QS) (b : Int) : QR:=if b = 117 then ⟨false,0,⟨q.xs,2,0,0⟩⟩ else if escI b < 0 then ⟨false,9,q⟩ else qAdd q [b8 (escI b)]
def qDigit (q : QS) (b : Int) : QR :=
 if hexI b < 0 then ⟨false,9,q⟩ else if q.d < 3 then ⟨false,0,⟨q.xs,2,q.d + 1,q.n * 16 + hexI b⟩⟩
 else if mayB (q.n * 16 + hexI b) = true then qAdd q (putL (q.n * 16 + hexI b)) else ⟨false,9,q⟩
def qPlain (q : QS) (b : Int) : QR :=
 if b < 32 then ⟨false,2,q⟩ else if b = 34 then ⟨true,0,⟨q.xs,3,0,0⟩⟩ else if b = 92 then ⟨false,0,⟨q.xs,1,0,0⟩⟩ else qAdd q [b8 b]
def qStep (q : QS) (b : Int) : QR:=if q.st = 1 then qLetter q b else if q.st = 2 then qDigit q b else if q.st = 3 then ⟨false,2,q⟩ else qPlain q b
def QInv (q : QS) : Prop:=q.xs.length <= 48 /\ (q.st = 0 \/ q.st = 1 \/ q.st = 3 \/ (q.st = 2 /\ 0 <= q.n /\ ((q.d = 0 /\ q.n = 0) \/ (q.d = 1 /\ q.n < 16) \/ (q.d = 2 /\ q.n < 256) \/ (q.d = 3 /\ q.n < 4096))))
theorem hexI_lt (b : Int) : hexI b < 16:=by unfold hexI; repeat' split <;> omega
structure QE where
 text : List UInt8
 n : Nat
 done : Bool
 e : Int
def qRun : QS -> Nat -> List UInt8 -> QE
 | q,i,[] => ⟨q.xs,i,false,0⟩
 | q,i,b :: t => if (qStep q (b.toNat : Int)).done = true \/ (qStep q (b.toNat : Int)).e ≠ 0 then ⟨(qStep q (b.toNat : Int)).q.xs,i,(qStep q (b.toNat : Int)).done,(qStep q (b.toNat : Int)).e⟩ else qRun (qStep q (b.toNat : Int)).q (i + 1) t
def qAll (l : List UInt8) : QE:=qRun (plainQ []) 0 l
theorem qRun_on {q q' : QS} {i : Nat} {b : UInt8} {t : List UInt8} (h : qStep q (b.toNat : Int) = ⟨false,0,q'⟩) : qRun q i (b :: t) = qRun q' (i + 1) t:=by
 rw [qRun,h]; simp
theorem qRun_done {q q' : QS} {i : Nat} {b : UInt8} {t : List UInt8} (h : qStep q (b.toNat : Int) = ⟨true,0,q'⟩) : qRun q i (b :: t) = ⟨q'.xs,i,true,0⟩:=by
 rw [qRun,h]; simp
theorem qAdd_ok {q : QS} {ch : List UInt8} (h : q.xs.length + ch.length <= 48) : qAdd q ch = ⟨false,0,plainQ (q.xs ++ ch)⟩:=by unfold qAdd; rw [if_neg (by omega)]
def hexD (n : Int) : Int:=if n < 10 then 48 + n else 87 + n
def prB (b : UInt8) : List UInt8 :=
 if (b.toNat : Int) = 34 \/ (b.toNat : Int) = 92 then [92,b] else if (b.toNat : Int) = 10 then [92,110] else if (b.toNat : Int) = 9 then [92,116] else if (b.toNat : Int) = 13 then [92,114]
 else if (b.toNat : Int) < 32 then [92,117,48,48,b8 (hexD (b.toNat / 16)),b8 (hexD (b.toNat % 16))] else [b]
def prAll (l : List UInt8) : List UInt8:=l.flatMap prB
def printL (l : List UInt8) : List UInt8:=34 :: (prAll l ++ [34])
theorem hexI_hexD (n : Int) (h0 : 0 <= n) (h1 : n < 16) : hexI (hexD n) = n:=by
 unfold hexD
 split
 ·unfold hexI; rw [if_pos (by omega)]; omega
 ·unfold hexI; rw [if_neg (by omega),if_pos (by omega)]; omega
theorem hexD_rg (n : Int) (h0 : 0 <= n) (h1 : n < 16) : 0 <= hexD n /\ hexD n < 256:=by unfold hexD; split <;> omega
theorem b8_of (b : UInt8) : b8 (b.toNat : Int) = b:=by unfold b8; simp
theorem prB_len (b : UInt8) : 1 <= (prB b).length /\ (prB b).length <= 6:=by
 unfold prB
 repeat' split
 all_goals simp
theorem step_stroke (xs : List UInt8) : qStep (plainQ xs) 92 = ⟨false,0,⟨xs,1,0,0⟩⟩:=rfl
theorem step_u (xs : List UInt8) : qStep ⟨xs,1,0,0⟩ 117 = ⟨false,0,⟨xs,2,0,0⟩⟩:=rfl
theorem step_letter (xs : List UInt8) (b : Int) (h : b ≠ 117) (he : 0 <= escI b) (hl : xs.length + 1 <= 48) : qStep ⟨xs,1,0,0⟩ b = ⟨false,0,plainQ (xs ++ [b8 (escI b)])⟩:=by
 show qLetter _ b = _
 unfold qLetter
 rw [if_neg h,if_neg (by omega)]
 exact qAdd_ok (by simpa using hl)
theorem step_digit (xs : List UInt8) (d n v : Int) (h0 : 0 <= v) (h1 : v < 16) (hd : d < 3) : qStep ⟨xs,2,d,n⟩ (hexD v) = ⟨false,0,⟨xs,2,d + 1,n * 16 + v⟩⟩:=by
 show qDigit _ _ = _
 unfold qDigit
 rw [hexI_hexD v h0 h1,if_neg (by omega),if_pos hd]
theorem step_last (xs : List UInt8) (n v : Int) (h0 : 0 <= v) (h1 : v < 16) (hm : mayB (n * 16 + v) = true) (hl : xs.length + (putL (n * 16 + v)).length <= 48) : qStep ⟨xs,2,3,n⟩ (hexD v) = ⟨false,0,plainQ (xs ++ putL (n * 16 + v))⟩:=by
 show qDigit _ _ = _
 unfold qDigit
 rw [hexI_hexD v h0 h1,if_neg (by omega),if_neg (show ¬ (3 : Int) < 3 by omega),if_pos hm]
 exact qAdd_ok hl
theorem step_char (xs : List UInt8) (b : Int) (h : 32 <= b) (h1 : b ≠ 34) (h2 : b ≠ 92) (hl : xs.length + 1 <= 48) : qStep (plainQ xs) b = ⟨false,0,plainQ (xs ++ [b8 b])⟩:=by
 show qPlain _ b = _
 unfold qPlain
 rw [if_neg (by omega),if_neg h1,if_neg h2]
 exact qAdd_ok (by simpa [plainQ] using hl)
theorem run_pr (xs : List UInt8) (b : UInt8) (i : Nat) (rest : List UInt8) (hl : xs.length + 1 <= 48) : qRun (plainQ xs) i (prB b ++ rest) = qRun (plainQ (xs ++ [b])) (i + (prB b).length) rest:=by
 have hb:=byte_le b
 unfold prB
 split
 ·rename_i h
  have e : escI (b.toNat : Int) = b.toNat:=by unfold escI; rw [if_pos (by omega)]
  have s2:=step_letter xs (b.toNat : Int) (by omega) (by omega) hl
  rw [e,b8_of] at s2
  simp only [List.cons_append,List.nil_append]
  rw [qRun_on (b:=92) (step_stroke xs),qRun_on s2]
  rfl
 ·split
  ·rename_i h
   have s2:=step_letter xs 110 (by decide) (by decide) hl
   rw [show escI 110 = (b.toNat : Int) from by rw [h]; rfl,b8_of] at s2
   simp only [List.cons_append,List.nil_append]
   rw [qRun_on (b:=92) (step_stroke xs),qRun_on (b:=110) s2]
   rfl
  ·split
   ·rename_i h
    have s2:=step_letter xs 116 (by decide) (by decide) hl
    rw [show escI 116 = (b.toNat : Int) from by rw [h]; rfl,b8_of] at s2
    simp only [List.cons_append,List.nil_append]
    rw [qRun_on (b:=92) (step_stroke xs),qRun_on (b:=116) s2]
    rfl
   ·split
    ·rename_i h
     have s2:=step_letter xs 114 (by decide) (by decide) hl
     rw [show escI 114 = (b.toNat : Int) from by rw [h]; rfl,b8_of] at s2
     simp only [List.cons_append,List.nil_append]
     rw [qRun_on (b:=92) (step_stroke xs),qRun_on (b:=114) s2]
     rfl
    ·split
     ·rename_i h
      have q0 : 0 <= (b.toNat : Int) / 16 /\ (b.toNat : Int) / 16 < 16:=by omega
      have q1 : 0 <= (b.toNat : Int) % 16 /\ (b.toNat : Int) % 16 < 16:=by omega
      have r0:=hexD_rg _ q0.1 q0.2
      have r1:=hexD_rg _ q1.1 q1.2
      have s3 : qStep ⟨xs,2,0,0⟩ 48 = ⟨false,0,⟨xs,2,1,0⟩⟩:=step_digit xs 0 0 0 (by decide) (by decide) (by decide)
      have s4 : qStep ⟨xs,2,1,0⟩ 48 = ⟨false,0,⟨xs,2,2,0⟩⟩:=step_digit xs 1 0 0 (by decide) (by decide) (by decide)
      have s5 : qStep ⟨xs,2,2,0⟩ (hexD ((b.toNat : Int) / 16)) = ⟨false,0,⟨xs,2,3,0 * 16 + (b.toNat : Int) / 16⟩⟩:=step_digit xs 2 0 _ q0.1 q0.2 (by decide)
      have hv : (0 * 16 + (b.toNat : Int) / 16) * 16 + (b.toNat : Int) % 16 = b.toNat:=by omega
      have hp : putL (b.toNat : Int) = [b]:=by unfold putL; rw [if_pos (by omega),b8_of]
      have s6:=step_last xs (0 * 16 + (b.toNat : Int) / 16) _ q1.1 q1.2 (by rw [hv]; unfold mayB; rw [decide_eq_true_iff]; omega) (by rw [hv,hp]; exact hl)
      rw [hv,hp] at s6
      rw [<- b8_nat _ r0.1 r0.2] at s5
      rw [<- b8_nat _ r1.1 r1.2] at s6
      simp only [List.cons_append,List.nil_append]
      rw [qRun_on (b:=92) (step_stroke xs),qRun_on (b:=117) (step_u xs),qRun_on (b:=48) s3,qRun_on (b:=48) s4,qRun_on s5,qRun_on s6]
      rfl
     ·have s1:=step_char xs (b.toNat : Int) (by omega) (by omega) (by omega) hl
      rw [b8_of] at s1
      simp only [List.cons_append,List.nil_append]
      rw [qRun_on s1]
      rfl
theorem run_prAll (l : List UInt8) : ∀ (xs : List UInt8) (i : Nat) (rest : List UInt8),xs.length + l.length <= 48 -> qRun (plainQ xs) i (prAll l ++ rest) = qRun (plainQ (xs ++ l)) (i + (prAll l).length) rest:=by
 induction l with
 | nil => intro xs i rest _; simp [prAll]
 | cons b t ih =>
  intro xs i rest h
  simp only [List.length_cons] at h
  have e : prAll (b :: t) = prB b ++ prAll t:=by simp [prAll]
  rw [e,List.append_assoc,run_pr xs b i _ (by omega),ih (xs ++ [b]) _ rest (by simp; omega)]
  simp only [List.append_assoc,List.cons_append,List.nil_append,List.length_append,Nat.add_assoc]
theorem quote_step (xs : List UInt8) : qStep (plainQ xs) 34 = ⟨true,0,⟨xs,3,0,0⟩⟩:=rfl
theorem all_print (l : List UInt8) (h : l.length <= 48) : qAll ((printL l).drop 1) = ⟨l,(printL l).length - 2,true,0⟩:=by
 unfold qAll printL
 rw [List.drop_succ_cons,List.drop_zero,run_prAll l [] 0 [34] (by simpa using h)]
 rw [qRun_done (b:=34) (quote_step _)]
 simp
theorem prAll_len (l : List UInt8) : l.length <= (prAll l).length /\ (prAll l).length <= 6 * l.length:=by
 induction l with
 | nil => simp [prAll]
 | cons b t ih =>
  have e : prAll (b :: t) = prB b ++ prAll t:=by simp [prAll]
  have:=prB_len b
  rw [e,List.length_append,List.length_cons]
  omega
theorem prAll_snoc (l : List UInt8) (b : UInt8) : prAll (l ++ [b]) = prAll l ++ prB b:=by simp [prAll]
theorem printL_len (l : List UInt8) : (printL l).length = (prAll l).length + 2:=by simp [printL]
open Go.RowKit Go.Maps
section
variable {P : Program} {w : World}
theorem wp_appS {ops : Array Oper} {rest : List Oper} {o : Oper} {a : Act} {Q : Exit -> Act -> World -> Prop} (hgd : o.guard = none) (s x : Operand) (t : TypeId)
 (ho : o.op = .call { callee:=.builtin .append,args:=#[s,x],argTypes:=#[t,t] })
 (base : Nat) (e : TypeId) (z : Value) (bytes : Nat) (ht : P.underlying t = some (.slice e)) (hinfo : (P.info? e).map (fun i => (i.zero,i.size,i.bytes)) = some (some z,1,bytes)) (hz1 : z.cells.size = 1)
 (v : Value) (xs news : List Value) (hs : a.eval s = v) (hown : ORow w base e v xs) (hu : ∀ u ∈ news,u.oneCell' = true)
 (A : Addr) (m c : Nat) (hm : news.length = m) (hx : a.eval x = .slice (some A) m c) (hc : ∀ j u,news[j]? = some u -> w.cell? (A.add j) = some u)
 (h63 : xs.length + m <= maxLen) (hbytes : (xs.length + m) * bytes <= 140737488355328) (hbase : base <= w.heap.size)
 (h : ∀ v' w',ORow w' base e v' (xs ++ news) -> Below base w w' -> wpList P ops Q rest (a.put o.dst v') w') :
 wpList P ops Q (o :: rest) a w:=by
 obtain ⟨i,hi,hz,hsize,hby⟩:=info_parts hinfo
 refine wpList_plain hgd fun K hK => ?_
 obtain ⟨v',w',hrun,h2,h3,_,h5⟩:=run_append_own_at (P:=P) w base t o.type e i z 1 bytes ht hi hz hsize hby hz1 (by decide) v xs.length xs hown
  A m c news (by simp [hm]) hc hu h63 hbytes hbase
 unfold Oper.wp execOp
 simp only [ho,resolve,invoke,builtin,Sem.run_bind,Sem.run_pure,Result.andThen_ok,List.map_toArray,List.map_cons,List.map_nil,hs,hx,hrun]
 refine hK _ _ (h v' w' ?_ ?_)
 ·unfold ORow
  rw [List.length_append,hm]
  exact h2
 ·refine ⟨h3.os,h3.tape,h3.output,h3.size,fun k hk => h3.block k (by omega) fun hcc => ?_⟩
  have:=World.ownsRow.lt hown k hcc.symm
  omega
end
theorem _root_.Go.Proofs.YtbnppjmmlfncmaaGreatDoor.ORow.set_far {w : World} {base : Nat} {e : TypeId} {v : Value} {xs : List Value} (h : ORow w base e v xs) {p : Addr} (hp : p.block < base) (u : Value) : ORow (w.setCell p u) base e v xs:=by
 refine ⟨h.1,?_⟩
 rcases h.2 with hn | ⟨g,cap,cur,hv,hg,hh,r⟩
 ·exact .inl hn
 ·exact .inr ⟨g,cap,cur,hv,hg,(Below.heap_setCell w p u g (by omega)).trans hh,r⟩
theorem ret_pair {a b : Int} {x y : Bool} (h : a = b) (h' : x = y) : Ending.returned (.tuple #[.int .i64 a,.bool x]) = .returned (.tuple #[.int .i64 b,.bool y]):=by rw [h,h']
def hexV (b : Int) : Int:=if hexI b < 0 then 0 else hexI b
theorem dig_any (b : Int) (h0 : 0 <= b) (h1 : b <= 255) (w : World) :
 Calls Tryz.prog 280 #[.int .u8 b] w fun e w' => e = .returned (.tuple #[.int .i64 (hexV b),.bool (decide (0 <= hexI b))]) /\ w = w':=by
 go_enter Tryz.func280,Tryz.ntmps280
 go_wp2
 all_goals go_ret2
 all_goals refine ⟨ret_pair ?_ ?_,rfl⟩
 all_goals try rw [Bool.eq_iff_iff,decide_eq_true_eq]
 all_goals simp only [hexV,hexI]
 all_goals repeat (first | rw [if_pos (by omega)] | rw [if_neg (by omega)])
 all_goals first | omega | (simp; omega) | simp
def QRaw (w : World) (g : Nat) (xs : List UInt8) (st d n : Int) : Prop :=
 ∃ v,Blk w g 266 #[v,.int .i64 st,.int .i64 d,.int .i64 n] /\ ORow w (g + 1) 5 v (xs.map bV)
def QAt (w : World) (g : Nat) (q : QS) : Prop:=∃ d n,QRaw w g q.xs q.st d n /\ (q.st = 2 -> d = q.d /\ n = q.n)
theorem QRaw.lt {w : World} {g : Nat} {xs : List UInt8} {st d n : Int} (h : QRaw w g xs st d n) : g < w.heap.size:=by obtain ⟨v,hb,_⟩:=h; exact hb.lt
theorem QAt.lt {w : World} {g : Nat} {q : QS} (h : QAt w g q) : g < w.heap.size:=by obtain ⟨_,_,h,_⟩:=h; exact h.lt
theorem QRaw.below {w w' : World} {g : Nat} {xs : List UInt8} {st d n : Int} (h : QRaw w g xs st d n) (hb : Below w.heap.size w w') : QRaw w' g xs st d n:=by
 obtain ⟨v,hk,ho⟩:=h
 exact ⟨v,hk.below hb hk.lt,ho.below hb (fun g' hg => (World.ownsRow.lt ho g' hg).2)⟩
theorem QAt.below {w w' : World} {g : Nat} {q : QS} (h : QAt w g q) (hb : Below w.heap.size w w') : QAt w' g q:=by
 obtain ⟨d,n,h,h'⟩:=h
 exact ⟨d,n,h.below hb,h'⟩
theorem QRaw.set {w : World} {g : Nat} {xs : List UInt8} {st d n : Int} (h : QRaw w g xs st d n) (st' : Int) : QRaw (w.setCell ⟨g,1,none⟩ (.int .i64 st')) g xs st' d n:=by
 obtain ⟨v,hk,ho⟩:=h
 exact ⟨v,hk.set_ 1 _,ho.set_far (by simp) _⟩
theorem QRaw.set2 {w : World} {g : Nat} {xs : List UInt8} {st d n : Int} (h : QRaw w g xs st d n) (d' : Int) : QRaw (w.setCell ⟨g,2,none⟩ (.int .i64 d')) g xs st d' n:=by
 obtain ⟨v,hk,ho⟩:=h
 exact ⟨v,hk.set_ 2 _,ho.set_far (by simp) _⟩
theorem QRaw.set3 {w : World} {g : Nat} {xs : List UInt8} {st d n : Int} (h : QRaw w g xs st d n) (n' : Int) : QRaw (w.setCell ⟨g,3,none⟩ (.int .i64 n')) g xs st d n':=by
 obtain ⟨v,hk,ho⟩:=h
 exact ⟨v,hk.set_ 3 _,ho.set_far (by simp) _⟩
def addE (xs ch : List UInt8) : Int:=if 48 < xs.length + ch.length then 4 else 0
def addX (xs ch : List UInt8) : List UInt8:=if 48 < xs.length + ch.length then xs else xs ++ ch
theorem add_any (w : World) (g : Nat) (xs : List UInt8) (st d n : Int) (hq : QRaw w g xs st d n) (hl : xs.length <= 48) (A : Addr) (ch : List UInt8) (c : Nat) (h4 : ch.length <= 4)
 (hc : ∀ j u,(ch.map bV)[j]? = some u -> w.cell? (A.add j) = some u) :
 Calls Tryz.prog 274 #[.pointer (some ⟨g,0,none⟩),.slice (some A) ch.length c] w fun e w' => e = .returned (.int .i64 (addE xs ch)) /\ QRaw w' g (addX xs ch) st d n /\ Below g w w':=by
 by_cases hov : 48 < xs.length + ch.length
 ·unfold addE addX
  rw [if_pos hov,if_pos hov]
  have hq':=hq
  obtain ⟨v,hk,ho⟩:=hq'
  obtain ⟨A',cap,rfl⟩:=ho.shape
  have hc0 : w.cell? ⟨g,0,none⟩ = some (.slice A' (xs.map bV).length cap):=hk.cell 0
  rw [List.length_map] at hc0
  clear hk ho
  go_enter Tryz.func274,Tryz.ntmps274
  go_wp2
  go_ret
  exact ⟨rfl,hq,Below.refl _ _⟩
 ·unfold addE addX
  rw [if_neg hov,if_neg hov]
  obtain ⟨v,hk,ho⟩:=hq
  have ho':=ho
  obtain ⟨A',cap,hv⟩:=ho'.shape
  subst hv
  clear ho'
  have hc0 : w.cell? ⟨g,0,none⟩ = some (.slice A' xs.length cap):=by have:=hk.cell 0; simpa using this
  have hlt:=hk.lt
  have hvs : (Value.slice A' (xs.map bV).length cap) = .slice A' xs.length cap:=by rw [List.length_map]
  rw [hvs] at ho hk
  go_enter Tryz.func274,Tryz.ntmps274
  go_wp2_with (first
   | (at_builtin; refine wp_appS rfl _ _ 39 rfl (g + 1) 5 (.int .u8 0) 1 Tryz.underlying39 Tryz.info5 rfl _ _ (ch.map bV) rfl (by exact ho) (by intro u hu; simp at hu; obtain ⟨b,_,rfl⟩:=hu; rfl) A ch.length c (by simp) rfl hc (by simp [maxLen]; omega) (by simp; omega) (by omega) ?_; intro v1 w1 hown1 hb1; obtain ⟨A1,c1,rfl⟩:=hown1.shape; have hk1:=hk.below hb1 (Nat.lt_succ_self _); have hc1 : w1.cell? ⟨g,0,none⟩ = some (.slice A' xs.length cap):=hk1.cell 0; have hf1:=hk1.frozen 0; have hlt1:=hk1.lt))
  go_ret
  refine ⟨rfl,⟨_,hk1.set_ 0 _,?_⟩,?_⟩
  ·rw [List.map_append]
   rw [List.length_append,List.length_map,List.length_map] at hown1
   exact ORow.set_far hown1 (Nat.lt_succ_self _) _
  ·have hb2 : Below g w w1:=hb1.mono (Nat.le_succ g)
   exact hb2.setCell (Nat.le_refl g) _
theorem qadd_eq {q : QS} {ch : List UInt8} : qAdd q ch = ⟨false,addE q.xs ch,if 48 < q.xs.length + ch.length then q else plainQ (q.xs ++ ch)⟩:=by
 unfold qAdd addE; split <;> rfl
theorem end_any (w : World) (g : Nat) (xs : List UInt8) (st d n : Int) (hq : QRaw w g xs st d n) (hl : xs.length <= 48) (A : Addr) (ch : List UInt8) (c : Nat) (h4 : ch.length <= 4)
 (hc : ∀ j u,(ch.map bV)[j]? = some u -> w.cell? (A.add j) = some u) :
 Calls Tryz.prog 279 #[.pointer (some ⟨g,0,none⟩),.slice (some A) ch.length c] w fun e w' => e = .returned (.int .i64 (addE xs ch)) /\ QRaw w' g (addX xs ch) (if 48 < xs.length + ch.length then st else 0) d n /\ Below g w w':=by
 have hlt:=hq.lt
 by_cases hov : 48 < xs.length + ch.length
 ·have e1 : addE xs ch = 4:=if_pos hov
  rw [if_pos hov,e1]
  go_enter Tryz.func279,Tryz.ntmps279
  go_wp2_with fail
  refine (add_any w g xs st d n hq hl A ch c h4 hc).mono ?_
  rintro e w1 ⟨rfl,hq1,hb1⟩
  rw [e1]
  go_wp2
  go_ret
  exact ⟨rfl,hq1,hb1⟩
 ·have e1 : addE xs ch = 0:=if_neg hov
  rw [if_neg hov,e1]
  go_enter Tryz.func279,Tryz.ntmps279
  go_wp2_with fail
  refine (add_any w g xs st d n hq hl A ch c h4 hc).mono ?_
  rintro e w1 ⟨rfl,hq1,hb1⟩
  rw [e1]
  have hc1 : w1.cell? ⟨g,1,none⟩ = some (.int .i64 st):=by obtain ⟨v,hk,_⟩:=hq1; exact hk.cell 1
  have hf1 : w1.frozen? ⟨g,1,none⟩ = false:=by obtain ⟨v,hk,_⟩:=hq1; exact hk.frozen 1
  have hlt1:=hq1.lt
  go_wp2
  go_ret
  exact ⟨rfl,hq1.set 0,hb1.setCell (Nat.le_refl _) _⟩
theorem qat_add {w : World} {g : Nat} {q : QS} {ch : List UInt8} {d n : Int} (h' : q.st = 2 -> d = q.d /\ n = q.n) (h : QRaw w g (addX q.xs ch) (if 48 < q.xs.length + ch.length then q.st else 0) d n) : QAt w g (qAdd q ch).q:=by
 rw [qadd_eq]
 unfold addX at h
 simp only
 split
 ·rename_i hov
  rw [if_pos hov,if_pos hov] at h
  exact ⟨d,n,h,h'⟩
 ·rename_i hov
  rw [if_neg hov,if_neg hov] at h
  exact ⟨d,n,h,fun hc => by cases hc⟩
def Stepd (w : World) (g : Nat) (r : QR) (w' : World) : Prop:=QAt w' g r.q /\ Below g w w'
theorem bytes_of (w : World) (l : List UInt8) :
 ∃ c w',(convert 9 39 (.string ⟨l.toArray⟩)).run Tryz.prog w = .ok (.slice (some ⟨w.heap.size,0,none⟩) l.length c) w' /\
  (∀ j u,(l.map bV)[j]? = some u -> w'.cell? ((⟨w.heap.size,0,none⟩ : Addr).add j) = some u) /\ Below w.heap.size w w':=by
 have h:=run_bytes_of_string (P:=Tryz.prog) w 9 39 5 ⟨l.toArray⟩ Tryz.underlying9 Tryz.underlying39 Tryz.underlying5
 have hs : (ByteArray.mk l.toArray).size = l.length:=by simp [ByteArray.size]
 rw [hs] at h
 refine ⟨_,_,h,?_,?_⟩
 ·intro j u hj
  rw [addr_add0]
  have hjl : j < l.length:=by
   rcases Nat.lt_or_ge j l.length with h | h
   ·exact h
   ·rw [List.getElem?_eq_none (by simpa using h)] at hj; cases hj
  have hc:=World.cell?_alloc_mark w.drew (bytesRow ⟨l.toArray⟩ (grownCap w l.length 0 5)) 5 ((bytesRow ⟨l.toArray⟩ (grownCap w l.length 0 5)).size,(bytesRow ⟨l.toArray⟩ (grownCap w l.length 0 5)).size + 1) j
  have hh : w.drew.heap.size = w.heap.size:=rfl
  rw [hh] at hc
  rw [hc,bytesRow_at _ _ _ (by simpa using hjl)]
  rw [List.getElem?_map,List.getElem?_eq_getElem hjl] at hj
  simpa [bV] using hj
 ·exact (below_drew (Below.refl _ _)).alloc (Nat.le_refl _) _
theorem digit_any (w : World) (g : Nat) (q : QS) (b : Int) (h0 : 0 <= b) (h1 : b <= 255) (hq : QAt w g q) (hst : q.st = 2) (hinv : QInv q) :
 Calls Tryz.prog 273 #[.pointer (some ⟨g,0,none⟩),.int .u8 b] w fun e w' => e = .returned (.int .i64 (qDigit q b).e) /\ Stepd w g (qDigit q b) w':=by
 obtain ⟨d,n,hq,h2⟩:=hq
 obtain ⟨rfl,rfl⟩:=h2 hst
 obtain ⟨hl,hs⟩:=hinv
 have hn : 0 <= q.n /\ q.n < 4096 /\ 0 <= q.d /\ q.d <= 3:=by rcases hs with h | h | h | h <;> omega
 obtain ⟨hn0,hn1,hd0,hd1⟩:=hn
 clear hs
 have hlt:=hq.lt
 have hx:=hexI_lt b
 by_cases hneg : hexI b < 0
 ·have hr : qDigit q b = ⟨false,9,q⟩:=by unfold qDigit; rw [if_pos hneg]
  have hdec : decide (0 <= hexI b) = false:=by simp; omega
  rw [hr]
  have HD:=Lib.hid hdec
  clear hr hdec hneg
  go_enter Tryz.func273,Tryz.ntmps273
  go_wp2_with (first
   | (go_at_call 280; refine (dig_any b h0 h1 _).mono ?_; rintro e w' ⟨rfl,rfl⟩; rw [HD.out]))
  go_ret
  exact ⟨rfl,⟨_,_,hq,fun _ => ⟨rfl,rfl⟩⟩,Below.refl _ _⟩
 have hv : hexV b = hexI b:=by unfold hexV; rw [if_neg hneg]
 have hdec : decide (0 <= hexI b) = true:=by simp; omega
 have hj : bits .or .i64 (q.n * 16) (hexI b) = q.n * 16 + hexI b:=bits_join .i64 63 (by decide) (fun n a b => by rw [IntKind.wrap_i64]; omega) 4 (q.n * 16) (hexI b) (by omega) (by omega) (by omega) (by omega) (by omega) (by omega)
 have HD:=Lib.hid hdec
 have HJ:=Lib.hid hj
 have HV:=Lib.hid hv
 have hq':=hq
 obtain ⟨v,hk,_⟩:=hq'
 have c2 : w.cell? ⟨g,2,none⟩ = some (.int .i64 q.d):=hk.cell 2
 have c3 : w.cell? ⟨g,3,none⟩ = some (.int .i64 q.n):=hk.cell 3
 have f2:=hk.frozen 2
 have f3:=hk.frozen 3
 clear hk hdec hj hv
 by_cases hd : q.d < 3
 ·have hr : qDigit q b = ⟨false,0,⟨q.xs,2,q.d + 1,q.n * 16 + hexI b⟩⟩:=by unfold qDigit; rw [if_neg hneg,if_pos hd]
  rw [hr]
  clear hr
  go_enter Tryz.func273,Tryz.ntmps273
  go_wp2_with (first
   | (go_at_call 280; refine (dig_any b h0 h1 _).mono ?_; rintro e w' ⟨rfl,rfl⟩; rw [HD.out,HV.out]))
  go_ret
  rw [HJ.out]
  have hq2:=(hq.set2 (q.d + 1)).set3 (q.n * 16 + hexI b)
  rw [hst] at hq2
  exact ⟨rfl,⟨_,_,hq2,fun _ => ⟨rfl,rfl⟩⟩,(((Below.refl g w).setCell (Nat.le_refl g) _).setCell (Nat.le_refl g) _)⟩
 have hnd : ¬ (q.d < 3):=hd
 by_cases hm : mayB (q.n * 16 + hexI b) = true
 ·have hr : qDigit q b = qAdd q (putL (q.n * 16 + hexI b)):=by unfold qDigit; rw [if_neg hneg,if_neg hd,if_pos hm]
  have hput : putS (q.n * 16 + hexI b) = ⟨(putL (q.n * 16 + hexI b)).toArray⟩:=by unfold putS; rw [if_pos hm]
  have hlen : (putL (q.n * 16 + hexI b)).length <= 4:=by
   unfold putL
   repeat' split
   all_goals simp
  rw [hr]
  have e0 : (qAdd q (putL (q.n * 16 + hexI b))).e = addE q.xs (putL (q.n * 16 + hexI b)):=by rw [qadd_eq]
  rw [e0]
  have HM:=Lib.hid hm
  have HP:=Lib.hid hput
  clear hr hput e0 hm
  go_enter Tryz.func273,Tryz.ntmps273
  go_wp2_with (first
   | (go_at_call 280; refine (dig_any b h0 h1 _).mono ?_; rintro e w' ⟨rfl,rfl⟩; rw [HD.out,HV.out]))
  rw [HJ.out]
  refine (put_any _ _).mono ?_
  rintro e w1 ⟨rfl,hb1⟩
  rw [HM.out,HP.out]
  obtain ⟨c,w2,hrun,hcells,hb2⟩:=bytes_of w1 (putL (q.n * 16 + hexI b))
  have hs1:=hb1.size
  go_wp2_with fail
  refine (end_any _ g q.xs q.st q.d q.n ((hq.below hb1).below hb2) hl ⟨w1.heap.size,0,none⟩ _ c hlen hcells).mono ?_
  rintro e w3 ⟨rfl,hq3,hb3⟩
  go_wp2
  go_ret
  exact ⟨rfl,qat_add (fun _ => ⟨rfl,rfl⟩) hq3,((hb1.mono (by omega)).trans (hb2.mono (by omega))).trans hb3⟩
 ·have hr : qDigit q b = ⟨false,9,q⟩:=by unfold qDigit; rw [if_neg hneg,if_neg hd,if_neg hm]
  have hmf : mayB (q.n * 16 + hexI b) = false:=by simpa using hm
  rw [hr]
  have HM:=Lib.hid hmf
  clear hr hm hmf
  go_enter Tryz.func273,Tryz.ntmps273
  go_wp2_with (first
   | (go_at_call 280; refine (dig_any b h0 h1 _).mono ?_; rintro e w' ⟨rfl,rfl⟩; rw [HD.out,HV.out]))
  rw [HJ.out]
  refine (put_any _ _).mono ?_
  rintro e w1 ⟨rfl,hb1⟩
  rw [HM.out]
  go_wp2
  go_ret
  exact ⟨rfl,⟨_,_,hq.below hb1,fun _ => ⟨rfl,rfl⟩⟩,hb1.mono (by omega)⟩
end Go.Proofs.YtbnppjmmlfncmaaGreatDoor.Qt
namespace Go.Proofs.YtbnppjmmlfncmaaGreatDoor
open Go.RowKit
def ScanAt (w : World) (g : Nat) (l lo hi : Int) : Prop:=Blk w g 160 #[.int .i64 l,.int .u8 lo,.int .u8 hi]
def Stepped (w : World) (g : Nat) (l lo hi b : Int) (e : Ending) (w' : World) : Prop :=
 e = .returned (.bool (stOk l lo hi b)) /\ w.grownBy w' (some g) /\ (if stOk l lo hi b = true then ScanAt w' g (stL l b) (stLo l b) (stHi l b) else ScanAt w' g l lo hi)
theorem new_any (w : World) : Calls Tryz.prog 101 #[] w fun e w' => e = .returned (.pointer (some ⟨w.heap.size,0,none⟩)) /\ w' = w.alloc (.cells #[.int .i64 0,.int .u8 128,.int .u8 191] 160):=by
 go_enter Tryz.func101,Tryz.ntmps101
 go_wp2
 go_ret
 exact ⟨rfl,rfl⟩
theorem whole_any (w : World) (g : Nat) (l lo hi : Int) (hs : ScanAt w g l lo hi) :
 Calls Tryz.prog 109 #[.pointer (some ⟨g,0,none⟩)] w fun e w' => e = .returned (.bool (decide (l = 0))) /\ w = w':=by
 have hc : w.cell? ⟨g,0,none⟩ = some (.int .i64 l):=hs.cell 0
 go_enter Tryz.func109,Tryz.ntmps109
 go_wp2
 go_ret
 refine ⟨ret_bool ?_,rfl⟩
 rw [Bool.eq_iff_iff]; simp
theorem stepped_no {w : World} {g : Nat} {l lo hi b : Int} {o : Obj} (hs : ScanAt w g l lo hi) (hk : stOk l lo hi b = false) : Stepped w g l lo hi b (.returned (.bool false)) (w.alloc o):=by
 refine ⟨by rw [hk],only_alloc (World.grownBy.refl _ _) _,?_⟩
 rw [hk,if_neg (by decide)]
 exact Blk.alloc hs _
theorem stepped_yes {w : World} {g : Nat} {l lo hi b : Int} {l' lo' hi' : Int} {o : Obj} (hs : ScanAt w g l lo hi) (hk : stOk l lo hi b = true) (h1 : l' = stL l b) (h2 : lo' = stLo l b) (h3 : hi' = stHi l b) :
 Stepped w g l lo hi b (.returned (.bool true)) ((((w.setCell ⟨g,0,none⟩ (.int .i64 l')).setCell ⟨g,1,none⟩ (.int .u8 lo')).setCell ⟨g,2,none⟩ (.int .u8 hi')).alloc o):=by
 subst h1 h2 h3
 have g1:=only_setCell (p:=⟨g,0,none⟩) (World.grownBy.refl w (some g)) (.inl rfl) (.int .i64 (stL l b))
 have g2:=only_setCell (p:=⟨g,1,none⟩) g1 (.inl rfl) (.int .u8 (stLo l b))
 have g3:=only_setCell (p:=⟨g,2,none⟩) g2 (.inl rfl) (.int .u8 (stHi l b))
 have b1:=Blk.set_ hs 0 (.int .i64 (stL l b))
 have b2:=Blk.set_ b1 1 (.int .u8 (stLo l b))
 have b3:=Blk.set_ b2 2 (.int .u8 (stHi l b))
 refine ⟨by rw [hk],only_alloc g3 _,?_⟩
 rw [hk,if_pos rfl]
 exact Blk.alloc b3 o
set_option maxHeartbeats 400000 in
theorem step_tail (w : World) (g : Nat) (l lo hi b : Int) (hs : ScanAt w g l lo hi) (hl : 0 < l) (hl3 : l <= 3) :
 Calls Tryz.prog 108 #[.pointer (some ⟨g,0,none⟩),.int .u8 b] w (Stepped w g l lo hi b):=by
 have c0 : w.cell? ⟨g,0,none⟩ = some (.int .i64 l):=hs.cell 0
 have c1 : w.cell? ⟨g,1,none⟩ = some (.int .u8 lo):=hs.cell 1
 have c2 : w.cell? ⟨g,2,none⟩ = some (.int .u8 hi):=hs.cell 2
 have f0:=hs.frozen 0
 have f1:=hs.frozen 1
 have f2:=hs.frozen 2
 have hlt:=hs.lt
 go_enter Tryz.func108,Tryz.ntmps108
 go_wp2
 refine wp_scope_fwd 2 ?_
 generalize hQ : Exit.fwd _ _ _ 2 = Q2
 go_wp2
 go_step3
 show Q2 _ _ _
 rw [<- hQ]
 refine Exit.fwd_goto 1 _ _ rfl ?_
 generalize hQ1 : Exit.fwd _ _ _ 1 = Q1
 go_wp2
 ·rw [<- hQ1,Exit.fwd_ret]
  go_ret
  have hk : stOk l lo hi b = false:=by unfold stOk; rw [if_pos hl]; simp; omega
  exact stepped_no hs hk
 ·go_step3
  show Q1 _ _ _
  rw [<- hQ1]
  refine Exit.fwd_goto 0 _ _ rfl ?_
  generalize hQ0 : Exit.fwd _ _ _ 0 = Q0
  go_wp2
  rw [<- hQ0,Exit.fwd_ret]
  go_ret
  have hk : stOk l lo hi b = true:=by unfold stOk; rw [if_pos hl]; simp; omega
  exact stepped_yes hs hk (by unfold stL; rw [if_pos hl]) (by unfold stLo; rw [if_pos hl]) (by unfold stHi; rw [if_pos hl])
 ·rw [<- hQ1,Exit.fwd_ret]
  go_ret
  have hk : stOk l lo hi b = false:=by unfold stOk; rw [if_pos hl]; simp; omega
  exact stepped_no hs hk
set_option maxHeartbeats 1000000 in
theorem step_lead (w : World) (g : Nat) (lo hi b : Int) (hs : ScanAt w g 0 lo hi) (hb0 : 0 <= b) (hb1 : b <= 255) :
 Calls Tryz.prog 108 #[.pointer (some ⟨g,0,none⟩),.int .u8 b] w (Stepped w g 0 lo hi b):=by
 have c0 : w.cell? ⟨g,0,none⟩ = some (.int .i64 0):=hs.cell 0
 have c1 : w.cell? ⟨g,1,none⟩ = some (.int .u8 lo):=hs.cell 1
 have c2 : w.cell? ⟨g,2,none⟩ = some (.int .u8 hi):=hs.cell 2
 have f0:=hs.frozen 0
 have f1:=hs.frozen 1
 have f2:=hs.frozen 2
 have hlt:=hs.lt
 go_enter Tryz.func108,Tryz.ntmps108
 go_wp2
 refine wp_scope_fwd 2 ?_
 generalize hQ : Exit.fwd _ _ _ 2 = Q2
 go_wp2
 all_goals first
  | (rw [<- hQ,Exit.fwd_ret]; go_ret; exact stepped_no hs (by simp [stOk]; omega))
  | skip
 all_goals
  go_step3
  show Q2 _ _ _
  rw [<- hQ]
  refine Exit.fwd_goto 1 _ _ rfl ?_
  generalize hQ1 : Exit.fwd _ _ _ 1 = Q1
 all_goals go_wp2
 all_goals try (go_step3; go_wp2)
 all_goals try (go_step3; go_wp2)
 all_goals try (go_step3; go_wp2)
 all_goals (rw [<- hQ1,Exit.fwd_ret]; go_ret)
 all_goals refine stepped_yes hs (by simp [stOk]; omega) ?_ ?_ ?_
 all_goals simp only [stL,stLo,stHi]
 all_goals clear hQ1 c0 c1 c2 f0 f1 f2 hs
 all_goals try simp only [beq_iff_eq,beq_eq_false_iff_ne] at *
 all_goals rw [if_neg (by omega)]
 all_goals repeat (first | rw [if_pos (by omega)] | rw [if_neg (by omega)])
theorem step_any (w : World) (g : Nat) (l lo hi b : Int) (hs : ScanAt w g l lo hi) (hl0 : 0 <= l) (hl3 : l <= 3) (hb0 : 0 <= b) (hb1 : b <= 255) :
 Calls Tryz.prog 108 #[.pointer (some ⟨g,0,none⟩),.int .u8 b] w (Stepped w g l lo hi b):=by
 rcases Int.lt_or_eq_of_le hl0 with h | h
 ·exact step_tail w g l lo hi b hs h hl3
 ·subst h
  exact step_lead w g lo hi b hs hb0 hb1
theorem stL_range {l b : Int} (h0 : 0 <= l) (h3 : l <= 3) : 0 <= stL l b /\ stL l b <= 3:=by
 unfold stL; repeat' split
 all_goals omega
def UtfAt (L : List UInt8) (k : Nat) (l lo hi : Int) : Prop:=∃ num out,runesL L = runesGo ⟨l,lo,hi,num,out⟩ (L.drop k)
theorem utf_step {L : List UInt8} {k : Nat} {b : UInt8} {l lo hi : Int} (hd : L.drop k = b :: L.drop (k + 1)) (h : UtfAt L k l lo hi) (hok : stOk l lo hi b.toNat = true) : UtfAt L (k + 1) (stL l b.toNat) (stLo l b.toNat) (stHi l b.toNat):=by
 obtain ⟨num,out,h⟩:=h
 rw [hd] at h
 simp only [runesGo,rnStep,hok,if_true] at h
 split at h
 ·rename_i heq
  split at heq <;> cases heq
 ·rename_i s' heq
  split at heq
  ·cases heq; exact ⟨_,_,h⟩
  ·cases heq; exact ⟨_,_,h⟩
theorem utf_bad {L : List UInt8} {k : Nat} {b : UInt8} {l lo hi : Int} (hd : L.drop k = b :: L.drop (k + 1)) (h : UtfAt L k l lo hi) (hok : stOk l lo hi b.toNat = false) : (runesL L).isSome = false:=by
 obtain ⟨num,out,h⟩:=h
 rw [hd] at h
 simp only [runesGo,rnStep,hok] at h
 simp at h
 rw [h]; rfl
theorem utf_end {L : List UInt8} {l lo hi : Int} {k : Nat} (hk : L.length <= k) (h : UtfAt L k l lo hi) : (runesL L).isSome = decide (l = 0):=by
 obtain ⟨num,out,h⟩:=h
 rw [h,List.drop_eq_nil_of_le hk]
 simp only [runesGo]
 split <;> simp_all
theorem drop_cons (s : ByteArray) (k : Nat) (h : k < s.size) : s.data.toList.drop k = s[k] :: s.data.toList.drop (k + 1):=by
 rw [List.drop_eq_getElem_cons (by simpa using h)]; rfl
theorem extract_all (s : ByteArray) (a : Nat) : (s.extract a s.size).data.toList = s.data.toList.drop a:=by
 rw [show (s.extract a s.size).data.toList = (s.data.toList.drop a).take (s.size - a) from by simp,List.take_of_length_le]
 simp
end Go.Proofs.YtbnppjmmlfncmaaGreatDoor
namespace Go.Proofs.YtbnppjmmlfncmaaGreatDoor.Qt
open Go.RowKit Go.Maps
end Go.Proofs.YtbnppjmmlfncmaaGreatDoor.Qt
