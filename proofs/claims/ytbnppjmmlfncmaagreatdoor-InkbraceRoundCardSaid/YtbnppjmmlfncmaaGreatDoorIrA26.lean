/-
  The reference's At (hexaplaref05): where one stands behind some events.
  The reference's own (hexaplaref05): what stands in a thing, not in others within it.
  The reference's Step (hexaplaref05): what its cases share; an event that may not be; nothing open.
-/
import Derived.Test.YtbnppjmmlfncmaaGreatDoorIrA03
import Derived.Test.YtbnppjmmlfncmaaGreatDoorIrA15
import Derived.Test.YtbnppjmmlfncmaaGreatDoorIrA25
set_option maxRecDepth 100000
set_option linter.unusedSectionVars false
namespace Go.Proofs.YtbnppjmmlfncmaaGreatDoor
open Go.RowKit
variable [Fo]
def nV (n : Nat) : Value:=.int .i64 (n : Int)
theorem row_shapeL {w : World} {base : Nat} {e : TypeId} {v : Value} {xs : List Value} {n : Nat} (h : ORow w base e v xs) (hn : xs.length = n) : ∃ A cap,v = .slice A n cap:=by subst hn; exact h.shape
theorem row_blockL {w : World} {base : Nat} {e : TypeId} {A : Option Addr} {n cap : Nat} {xs : List Value} (h : ORow w base e (.slice A n cap) xs) (hn : 0 < xs.length) : ∃ r,A = some ⟨r,0,none⟩:=by
 rcases h.2 with ⟨_,h0⟩ | ⟨g,c,cur,hv,_⟩
 ·omega
 ·injection hv with h1 _ _
  exact ⟨g,h1⟩
theorem rowL_of {w : World} {base : Nat} {e : TypeId} {v : Value} {xs : List Value} {n : Nat} (h : ORow w base e v xs) (hn : xs.length = n) : w.ownsRow base e 1 v n xs:=by
 have:=h
 unfold ORow at this
 rw [hn] at this
 exact this
theorem rowL_to {w : World} {base : Nat} {e : TypeId} {v : Value} {xs : List Value} {n : Nat} (h : w.ownsRow base e 1 v n xs) (hn : xs.length = n) : ORow w base e v xs:=by
 unfold ORow
 rw [hn]
 exact h
theorem nrev_len (S : List Nat) : (S.reverse.map nV).length = S.length:=by simp
theorem nrev_cons (p : Nat) (S : List Nat) : (p :: S).reverse.map nV = S.reverse.map nV ++ [nV p]:=by simp
theorem nrow_pop {w : World} {base r n cap p : Nat} {S : List Nat} (h : ORow w base 3 (.slice (some ⟨r,0,none⟩) n cap) ((p :: S).reverse.map nV)) (hn : n = S.length + 1) : ORow w base 3 (.slice (some ⟨r,0,none⟩) S.length cap) (S.reverse.map nV):=by
 subst hn
 have h1:=rowN_cut (rowL_of h (by simp)) (m:=S.length) (by omega)
 rw [nrev_cons,Nat.mul_one,List.take_append_of_le_length (by simp),List.take_of_length_le (by simp)] at h1
 exact rowL_to h1 (by simp)
def AtEnd (l : List Ev) : Ending:=match atL l with
 | [] => .returned (.tuple #[.int .i64 (-1),.int .i64 0])
 | p :: ps => .returned (.tuple #[.int .i64 p,.int .i64 ((ps.length : Int) + 1)])
theorem atEnd_nil {l : List Ev} (h : atL l = []) : AtEnd l = .returned (.tuple #[.int .i64 (-1),.int .i64 0]):=by unfold AtEnd; rw [h]
theorem atEnd_cons {l : List Ev} {p : Nat} {ps : List Nat} (h : atL l = p :: ps) : AtEnd l = .returned (.tuple #[.int .i64 p,.int .i64 ((ps.length : Int) + 1)]):=by unfold AtEnd; rw [h]
set_option maxHeartbeats 8000000 in
theorem at_any (w : World) (v : Value) (xs : List Ev) (hv : ERead w v xs) (hn : xs.length <= 100000) :
 Calls Tryz.prog 64 #[v] w fun e w' => e = AtEnd xs /\ Below w.heap.size w w':=by
 obtain ⟨A,c,rfl,_,_,hr⟩:=hv
 go_enter Tryz.func64,Tryz.ntmps64
 go_wp2_with fail
 go_loopw [4,5] (fun op i wr => ∃ k : Nat,k <= xs.length /\ i = .int .i64 k /\ ORow wr w.heap.size 3 op ((atL (xs.take k)).reverse.map nV) /\ Hid (Below w.heap.size w wr)) (fun _ i _ => xs.length - (intOf i).toNat)
 case atStart => exact ⟨0,Nat.zero_le _,rfl,ORow.nil _ _ _,Lib.hid (Below.refl _ _)⟩
 case round =>
  obtain ⟨k,hk,rfl,hown,HB⟩:=hrel
  have hbs:=HB.out.size
  by_cases hlt : k < xs.length
  ·obtain ⟨bb,oo,rfl,hc⟩:=hr (by omega)
   obtain ⟨h1,_,_⟩:=hc k hlt
   have g1:=(HB.out.cell (cell_lt h1)).trans h1
   have ht:=atL_take xs k hlt
   have hSl : (atL (xs.take k)).length <= k:=by have:=atL_len (xs.take k); rw [List.length_take] at this; omega
   clear hc hr h1
   generalize (xs[k]).k = xk at *
   obtain ⟨S,hS⟩ : ∃ S,atL (xs.take k) = S:=⟨_,rfl⟩
   rw [hS] at hown ht hSl
   have hlti : (k : Int) < xs.length:=by omega
   cases ho : opensK xk with
   | true =>
    have hst : atL (xs.take (k + 1)) = k :: S:=by rw [ht]; unfold atStep; rw [if_pos ho]
    have HS:=Lib.hid hst
    unfold opensK at ho
    rw [decide_eq_true_iff] at ho
    have h63 : (S.reverse.map nV).length + 1 <= maxLen:=by rw [nrev_len]; simp only [maxLen]; omega
    have h8 : ((S.reverse.map nV).length + 1) * 8 <= 140737488355328:=by rw [nrev_len]; omega
    clear hS ht hst
    rcases ho with rfl | rfl | rfl
    all_goals
     go_wp2_with (first
      | (at_builtin; refine wp_app1b rfl _ _ 27 rfl w.heap.size 3 (.int .i64 0) 8 Tryz.underlying27 Tryz.info3 rfl _ _ _ rfl (by exact hown) rfl _ rfl h63 h8 hbs ?_; intro v1 w1 hown1 hb1))
     go_roundw
     case rel => exact ⟨k + 1,hlt,by go_num,by rw [HS.out,nrev_cons]; exact hown1,Lib.hid (HB.out.trans hb1)⟩
     case measure => first | (simp [intOf]; done) | (simp [intOf]; omega)
   | false =>
    cases he : endsK xk with
    | true =>
     have hst : atL (xs.take (k + 1)) = S.tail:=by rw [ht]; unfold atStep; rw [if_neg (by rw [ho]; decide),if_pos he]
     have HS:=Lib.hid hst
     unfold endsK at he
     rw [decide_eq_true_iff] at he
     clear hS ht hst ho
     match S with
     | [] =>
      obtain ⟨A1,c1,rfl⟩:=row_shapeL hown (n:=0) rfl
      rcases he with rfl | rfl | rfl
      all_goals
       go_wp2_with fail
       go_roundw
       case rel => exact ⟨k + 1,hlt,by go_num,by rw [HS.out]; exact hown,HB⟩
       case measure => first | (simp [intOf]; done) | (simp [intOf]; omega)
     | p :: S =>
      obtain ⟨A1,c1,rfl⟩:=row_shapeL hown (n:=S.length + 1) (by simp)
      obtain ⟨r1,rfl⟩:=row_blockL hown (by simp)
      obtain ⟨_,_,hcap,hcm,_,_,_⟩:=rowN_block (rowL_of hown (n:=S.length + 1) (by simp))
      have hcm2 : c1 <= 9223372036854775807:=by simpa [maxLen] using hcm
      have hpop:=nrow_pop hown rfl
      clear hcm
      rcases he with rfl | rfl | rfl
      all_goals
       go_wp2_with fail
       go_roundw
       case rel => exact ⟨k + 1,hlt,by go_num,by rw [HS.out]; exact hpop,HB⟩
       case measure => first | (simp [intOf]; done) | (simp [intOf]; omega)
    | false =>
     have hst : atL (xs.take (k + 1)) = S:=by rw [ht]; unfold atStep; rw [if_neg (by rw [ho]; decide),if_neg (by rw [he]; decide)]
     have HS:=Lib.hid hst
     unfold endsK at he
     unfold opensK at ho
     rw [decide_eq_false_iff_not] at he ho
     have d5 : (xk == 5) = false:=ne_beq (by omega)
     have d6 : (xk == 6) = false:=ne_beq (by omega)
     have d7 : (xk == 7) = false:=ne_beq (by omega)
     have d9 : (xk == 9) = false:=ne_beq (by omega)
     have d10 : (xk == 10) = false:=ne_beq (by omega)
     have d12 : (xk == 12) = false:=ne_beq (by omega)
     clear hS ht hst ho he
     go_wp2_with fail
     go_roundw
     case rel => exact ⟨k + 1,hlt,by go_num,by rw [HS.out]; exact hown,HB⟩
     case measure => first | (simp [intOf]; done) | (simp [intOf]; omega)
  ·have hke : k = xs.length:=by omega
   rw [hke,List.take_of_length_le (Nat.le_refl _)] at hown
   obtain ⟨S,hS⟩ : ∃ S,atL xs = S:=⟨_,rfl⟩
   rw [hS] at hown
   have HS:=Lib.hid hS
   have hSl:=atL_len xs
   rw [hS] at hSl
   clear hS
   have hlti : ¬ (k : Int) < xs.length:=by omega
   match S with
   | [] =>
    obtain ⟨A1,c1,rfl⟩:=row_shapeL hown (n:=0) rfl
    go_wp2_with fail
    go_ret2
    exact ⟨by rw [atEnd_nil HS.out]; rfl,HB.out⟩
   | p :: S =>
    obtain ⟨A1,c1,rfl⟩:=row_shapeL hown (n:=S.length + 1) (by simp)
    obtain ⟨r1,rfl⟩:=row_blockL hown (by simp)
    have hcl : wr.cell? ⟨r1,S.length,none⟩ = some (.int .i64 p):=by
     rw [rowN_cell (rowL_of hown (n:=S.length + 1) (by simp)) (by omega),nrev_cons,List.getElem?_append_right (by simp)]
     simp [nV]
    have hsl : S.length + 1 <= 100000:=by simp at hSl; omega
    go_wp2_with fail
    go_ret2
    exact ⟨by rw [atEnd_cons HS.out]; rfl,HB.out⟩
end Go.Proofs.YtbnppjmmlfncmaaGreatDoor
namespace Go.Proofs.YtbnppjmmlfncmaaGreatDoor
open Go.RowKit
variable [Fo]
theorem nmap_len (S : List Nat) : (S.map nV).length = S.length:=by simp
theorem nmap_snoc (p : Nat) (S : List Nat) : (S ++ [p]).map nV = S.map nV ++ [nV p]:=by simp
def OPost (w : World) (xs : List Ev) (p : Nat) (e : Ending) (w' : World) : Prop:=∃ v,e = .returned v /\ ORow w' w.heap.size 3 v ((ownL xs p).map nV) /\ Below w.heap.size w w'
set_option maxHeartbeats 8000000 in
theorem rown_any (w : World) (v : Value) (xs : List Ev) (p : Nat) (hv : ERead w v xs) (hn : xs.length <= 100000) (hp : p < xs.length) :
 Calls Tryz.prog 105 #[v,.int .i64 p] w (OPost w xs p):=by
 obtain ⟨A,c,rfl,_,_,hr⟩:=hv
 obtain ⟨bb,oo,rfl,hc⟩:=hr (by omega)
 clear hr
 go_enter Tryz.func105,Tryz.ntmps105
 go_wp2_with fail
 go_loopw [5,6,7] (fun op d i wr => ∃ k : Nat,p + 1 <= k /\ k <= xs.length /\ i = .int .i64 k /\ d = .int .i64 (ownT xs p k).1 /\ ORow wr w.heap.size 3 op ((ownT xs p k).2.map nV) /\ Hid (Below w.heap.size w wr)) (fun _ _ i _ => xs.length - (intOf i).toNat)
 case atStart => exact ⟨p + 1,Nat.le_refl _,hp,by go_num,by rw [ownT_start],by rw [ownT_start]; exact ORow.nil _ _ _,Lib.hid (Below.refl _ _)⟩
 case round =>
  obtain ⟨k,hpk,hk,rfl,rfl,hown,HB⟩:=hrel
  have hbs:=HB.out.size
  by_cases hlt : k < xs.length
  ·obtain ⟨h1,_,_⟩:=hc k hlt
   have g1:=(HB.out.cell (cell_lt h1)).trans h1
   have ht:=ownT_step xs p k hpk hlt
   obtain ⟨hd1,hd2⟩:=ownT_deep xs p k hk
   have hSl:=(ownT_lt xs p k hpk hk).2
   clear h1
   generalize (xs[k]).k = xk at *
   obtain ⟨s,hs⟩ : ∃ s,ownT xs p k = s:=⟨_,rfl⟩
   rw [hs] at hown ht hd1 hd2 hSl ⊢
   obtain ⟨D,S⟩:=s
   simp only at hown hd1 hd2 hSl ⊢
   have hlti : (k : Int) < xs.length:=by omega
   have hDl : -100000 <= D:=by omega
   have hDh : D <= 100000:=by omega
   clear hd1 hd2
   cases he : endsK xk with
   | true =>
    have hst : ownT xs p (k + 1) = (D - 1,S):=by rw [ht]; unfold ownStep; rw [if_pos he]
    have HS:=Lib.hid hst
    unfold endsK at he
    rw [decide_eq_true_iff] at he
    clear hs ht hst
    rcases he with rfl | rfl | rfl
    all_goals
     go_wp2_with fail
     go_roundw
     case rel => exact ⟨k + 1,by omega,hlt,by go_num,by rw [HS.out],by rw [HS.out]; exact hown,HB⟩
     case measure => first | (simp [intOf]; done) | (simp [intOf]; omega)
   | false =>
    by_cases hD0 : D = 0
    ·subst hD0
     have h63 : (S.map nV).length + 1 <= maxLen:=by rw [nmap_len]; simp only [maxLen]; omega
     have h8 : ((S.map nV).length + 1) * 8 <= 140737488355328:=by rw [nmap_len]; omega
     cases ho : opensK xk with
     | true =>
      have hst : ownT xs p (k + 1) = (1,S ++ [k]):=by rw [ht]; unfold ownStep; rw [if_neg (by rw [he]; decide),if_pos ho,if_pos rfl]; rfl
      have HS:=Lib.hid hst
      unfold opensK at ho
      rw [decide_eq_true_iff] at ho
      clear hs ht hst he
      rcases ho with rfl | rfl | rfl
      all_goals
       go_wp2_with (first
        | (at_builtin; refine wp_app1b rfl _ _ 27 rfl w.heap.size 3 (.int .i64 0) 8 Tryz.underlying27 Tryz.info3 rfl _ _ _ rfl (by exact hown) rfl _ rfl h63 h8 hbs ?_; intro v1 w1 hown1 hb1))
       go_roundw
       case rel => exact ⟨k + 1,by omega,hlt,by go_num,by rw [HS.out],by rw [HS.out,nmap_snoc]; exact hown1,Lib.hid (HB.out.trans hb1)⟩
       case measure => first | (simp [intOf]; done) | (simp [intOf]; omega)
     | false =>
      have hst : ownT xs p (k + 1) = (0,S ++ [k]):=by rw [ht]; unfold ownStep; rw [if_neg (by rw [he]; decide),if_neg (by rw [ho]; decide),if_pos rfl]
      have HS:=Lib.hid hst
      unfold endsK at he
      unfold opensK at ho
      rw [decide_eq_false_iff_not] at he ho
      have d5 : (xk == 5) = false:=ne_beq (by omega)
      have d6 : (xk == 6) = false:=ne_beq (by omega)
      have d7 : (xk == 7) = false:=ne_beq (by omega)
      have d9 : (xk == 9) = false:=ne_beq (by omega)
      have d10 : (xk == 10) = false:=ne_beq (by omega)
      have d12 : (xk == 12) = false:=ne_beq (by omega)
      clear hs ht hst ho he
      go_wp2_with (first
       | (at_builtin; refine wp_app1b rfl _ _ 27 rfl w.heap.size 3 (.int .i64 0) 8 Tryz.underlying27 Tryz.info3 rfl _ _ _ rfl (by exact hown) rfl _ rfl h63 h8 hbs ?_; intro v1 w1 hown1 hb1))
      go_roundw
      case rel => exact ⟨k + 1,by omega,hlt,by go_num,by rw [HS.out],by rw [HS.out,nmap_snoc]; exact hown1,Lib.hid (HB.out.trans hb1)⟩
      case measure => first | (simp [intOf]; done) | (simp [intOf]; omega)
    ·have e0:=ne_beq hD0
     cases ho : opensK xk with
     | true =>
      have hst : ownT xs p (k + 1) = (D + 1,S):=by rw [ht]; unfold ownStep; rw [if_neg (by rw [he]; decide),if_pos ho,if_neg hD0]
      have HS:=Lib.hid hst
      unfold opensK at ho
      rw [decide_eq_true_iff] at ho
      clear hs ht hst he hD0
      rcases ho with rfl | rfl | rfl
      all_goals
       go_wp2_with fail
       go_roundw
       case rel => exact ⟨k + 1,by omega,hlt,by go_num,by rw [HS.out],by rw [HS.out]; exact hown,HB⟩
       case measure => first | (simp [intOf]; done) | (simp [intOf]; omega)
     | false =>
      have hst : ownT xs p (k + 1) = (D,S):=by rw [ht]; unfold ownStep; rw [if_neg (by rw [he]; decide),if_neg (by rw [ho]; decide),if_neg hD0]
      have HS:=Lib.hid hst
      unfold endsK at he
      unfold opensK at ho
      rw [decide_eq_false_iff_not] at he ho
      have d5 : (xk == 5) = false:=ne_beq (by omega)
      have d6 : (xk == 6) = false:=ne_beq (by omega)
      have d7 : (xk == 7) = false:=ne_beq (by omega)
      have d9 : (xk == 9) = false:=ne_beq (by omega)
      have d10 : (xk == 10) = false:=ne_beq (by omega)
      have d12 : (xk == 12) = false:=ne_beq (by omega)
      clear hs ht hst ho he hD0
      go_wp2_with fail
      go_roundw
      case rel => exact ⟨k + 1,by omega,hlt,by go_num,by rw [HS.out],by rw [HS.out]; exact hown,HB⟩
      case measure => first | (simp [intOf]; done) | (simp [intOf]; omega)
  ·have hke : xs.length <= k:=by omega
   rw [ownT_end xs p k hke] at hown
   have hlti : ¬ (k : Int) < xs.length:=by omega
   go_wp2_with fail
   go_ret
   exact ⟨_,rfl,hown,HB.out⟩
end Go.Proofs.YtbnppjmmlfncmaaGreatDoor
namespace Go.Proofs.YtbnppjmmlfncmaaGreatDoor
open Go.RowKit
variable [Fo]
theorem rel_inner {had : List Ev} {st : List Pt} {pl : Nat} {ps : List Nat} (h : Rel had st) (ha : atL had = pl :: ps) : ∃ p r,st = p :: r /\ Inner had 0 pl p /\ r.length = ps.length + 1:=by
 unfold Rel at h
 rw [ha] at h
 cases st with
 | nil => exact h.elim
 | cons p r => exact ⟨p,r,rfl,h.1,by have:=RelGo.len h.2; omega⟩
theorem rel_top {had : List Ev} {st : List Pt} (h : Rel had st) (ha : atL had = []) : ∃ p,st = [p] /\ p.kind = 0 /\ (p.last = 0 ↔ had = []):=by
 unfold Rel at h
 rw [ha] at h
 match st,h with
 | [p],h => exact ⟨p,rfl,h.1,h.2.2⟩
 | [],h => exact h.elim
 | _ :: _ :: _,h => exact h.elim
theorem kindAt_get {l : List Ev} {i : Nat} (h : i < l.length) : kindAt l i = (l[i]).k:=by
 unfold kindAt; rw [List.getElem?_eq_getElem h]
theorem textAt_get {l : List Ev} {i : Nat} (h : i < l.length) : textAt l i = (l[i]).t.data.toList:=by
 unfold textAt; rw [List.getElem?_eq_getElem h]
theorem lastK_snoc (l : List Ev) (S : List Nat) (j : Nat) : lastK l (S ++ [j]) = kindAt l j:=by
 unfold lastK; rw [List.getLast?_append]; rfl
def RSPost (w : World) (st : List Pt) (x : Ev) (e : Ending) (w' : World) : Prop:=e = .returned (.int .i64 (stepE st x)) /\ Below w.heap.size w w'
theorem rightV (x : Ev) (w : World) (hs : x.t.size <= 1099511627776) (hs2 : x.v.size <= 1099511627776) : Calls Tryz.prog 104 #[.agg #[.int .i64 x.k,.string x.t,.string x.v]] w (FPost x w):=right_any x w hs hs2
set_option maxHeartbeats 4000000 in
theorem rstep_bad (w : World) (v : Value) (st : List Pt) (x : Ev) (hs : x.t.size <= 1099511627776) (hs2 : x.v.size <= 1099511627776) (hst : st ≠ []) (hf : formedB x = false) :
 Calls Tryz.prog 63 #[v,evV x] w (RSPost w st x):=by
 have hE : stepE st x = 19:=by
  cases st with
  | nil => exact absurd rfl hst
  | cons p r => simp only [stepE]; rw [if_pos (.inl hf)]
 unfold RSPost
 rw [hE]
 have hF:=fun w' => rightV x w' hs hs2
 have HF:=Lib.hid hf
 clear hf hE
 have hX:=EvAt.new w x
 have hbel:=(Below.refl w.heap.size w).alloc (Nat.le_refl _) (.cells #[.int .i64 x.k,.string x.t,.string x.v] 67)
 have x0:=hX.c0
 have x1:=hX.c1
 have x2:=hX.c2
 unfold evV
 go_enter Tryz.func63,Tryz.ntmps63
 go_wp2_with (first
  | (go_at_call 104; refine (hF _).mono ?_; rintro e w1 ⟨rfl,hb1⟩; rw [HF.out]; replace hbel:=hbel.trans (hb1.mono hbel.size)))
 go_ret
 exact ⟨rfl,hbel⟩
theorem stepE_in {p : Pt} {r : List Pt} {x : Ev} (hf : formedB x = true) (h8 : x.k ≠ 8) (h11 : x.k ≠ 11) : stepE (p :: r) x = if contB p.kind p.last x.k (emptyT x.t) = false then 19 else if opensK x.k = true /\ 6 <= r.length then 5 else 0:=by
 simp only [stepE,hf]
 cases hc : contB p.kind p.last x.k (emptyT x.t) with
 | false => simp
 | true =>
  cases he : endsK x.k with
  | true =>
   have ho : opensK x.k = false:=by
    rw [Bool.eq_false_iff]; intro h; rw [opens_not_ends' h] at he; cases he
   simp [ho]
  | false =>
   cases ho : opensK x.k with
   | true => simp
   | false => simp [h8,h11]
theorem formed_kind {x : Ev} (h : formedB x = true) : x.k = 1 \/ x.k = 2 \/ x.k = 3 \/ x.k = 4 \/ x.k = 5 \/ x.k = 6 \/ x.k = 7 \/ x.k = 8 \/ x.k = 9 \/ x.k = 10 \/ x.k = 11 \/ x.k = 12:=by
 unfold formedB bareK at h
 repeat' split at h
 all_goals first
  | omega
  | (exfalso; exact absurd h (by decide))
  | (rename_i hb; rw [decide_eq_true_iff] at hb; omega)
set_option maxHeartbeats 8000000 in
theorem rstep_top (w : World) (v : Value) (had : List Ev) (st : List Pt) (x : Ev) (hv : ERead w v had) (hn : had.length <= 100000) (hs : x.t.size <= 1099511627776) (hs2 : x.v.size <= 1099511627776) (hf : formedB x = true) (hR : Rel had st) (ha : atL had = []) :
 Calls Tryz.prog 63 #[v,evV x] w (RSPost w st x):=by
 obtain ⟨p,rfl,hk,hl⟩:=rel_top hR ha
 have hE : stepE [p] x = if had = [] /\ valueK x.k = true then 0 else 19:=by
  simp only [stepE]
  have hc : contB p.kind p.last x.k (emptyT x.t) = (decide (p.last = 0) && valueK x.k):=by unfold contB; rw [hk,if_neg (by decide),if_neg (by decide),if_neg (by decide)]
  rw [hc,hf]
  by_cases h0 : p.last = 0
  ·have h1:=hl.1 h0
   cases hvk : valueK x.k with
   | true =>
    rw [decide_eq_true h0,if_pos (show had = [] /\ true = true from ⟨h1,rfl⟩),if_neg (by decide)]
    have he : endsK x.k = false:=by rw [Bool.eq_false_iff]; intro hc; rw [ends_not_value hc] at hvk; cases hvk
    unfold valueK at hvk
    rw [decide_eq_true_iff] at hvk
    rw [if_neg (by rw [he]; decide)]
    by_cases ho : opensK x.k = true
    ·rw [if_pos ho]; rfl
    ·rw [if_neg ho,if_neg (by omega)]
   | false => rw [Bool.and_false,if_pos (.inr rfl),if_neg (by simp)]
  ·rw [decide_eq_false h0,Bool.false_and,if_pos (.inr rfl),if_neg (fun hc => h0 (hl.2 hc.1))]
 unfold RSPost
 rw [hE]
 have hF:=fun w' => rightV x w' hs hs2
 have HF:=Lib.hid hf
 have HA:=Lib.hid ha
 have hkk:=formed_kind hf
 clear hE hf ha hl hk hR
 have hX:=EvAt.new w x
 have hbel:=(Below.refl w.heap.size w).alloc (Nat.le_refl _) (.cells #[.int .i64 x.k,.string x.t,.string x.v] 67)
 have hv':=hv
 obtain ⟨A,c,rfl,_,_,_⟩:=hv'
 unfold evV
 obtain ⟨k,t,u⟩:=x
 simp only at *
 by_cases h0 : had = []
 ·subst h0
  rcases hkk with rfl | rfl | rfl | rfl | rfl | rfl | rfl | rfl | rfl | rfl | rfl | rfl
  all_goals
   have x0:=hX.c0
   have x1:=hX.c1
   have x2:=hX.c2
   simp only at x0 x1 x2
   go_enter Tryz.func63,Tryz.ntmps63
   go_wp2_with (first
    | (go_at_call 104; refine (hF _).mono ?_; rintro e w1 ⟨rfl,hb1⟩; rw [HF.out]; replace hbel:=hbel.trans (hb1.mono hbel.size); have z0:=(hX.below hb1).c0; simp only at z0)
    | (go_at_call 64; refine (at_any _ _ [] (hv.below (hbel)) hn).mono ?_; rintro e w2 ⟨he,hb2⟩; rw [atEnd_nil HA.out] at he; subst he; replace hbel:=hbel.trans (hb2.mono hbel.size); have y0:=((hX.below hb1).below hb2).c0; simp only at y0))
   go_ret
   exact ⟨rfl,hbel⟩
 ·have hlen : (had.length : Int) > 0:=by have:=List.length_pos_iff.2 h0; omega
  rw [if_neg (fun hc => h0 hc.1)]
  rcases hkk with rfl | rfl | rfl | rfl | rfl | rfl | rfl | rfl | rfl | rfl | rfl | rfl
  all_goals
   have x0:=hX.c0
   have x1:=hX.c1
   have x2:=hX.c2
   simp only at x0 x1 x2
   go_enter Tryz.func63,Tryz.ntmps63
   go_wp2_with (first
    | (go_at_call 104; refine (hF _).mono ?_; rintro e w1 ⟨rfl,hb1⟩; rw [HF.out]; replace hbel:=hbel.trans (hb1.mono hbel.size); have z0:=(hX.below hb1).c0; simp only at z0)
    | (go_at_call 64; refine (at_any _ _ had (hv.below (hbel)) hn).mono ?_; rintro e w2 ⟨he,hb2⟩; rw [atEnd_nil HA.out] at he; subst he; replace hbel:=hbel.trans (hb2.mono hbel.size); have y0:=((hX.below hb1).below hb2).c0; simp only at y0))
   go_ret
   exact ⟨rfl,hbel⟩
end Go.Proofs.YtbnppjmmlfncmaaGreatDoor
