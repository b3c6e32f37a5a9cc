/-
  events: continues, continuesElem: whether some document goes on with an event.
  events: a Check as it lies: a block, a row of parts, their maps; New, Depth, Done, close.
  events: Done, close and add of a Check.
  events: add, where a key is kept.
-/
import Derived.Test.YtbnppjmmlfncmaaGreatDoorIrA13
import Derived.Maps.OwnIn
import Derived.Deep.QuietTactic
import Derived.BigQuiet
import Derived.IntWalk
import Derived.Deep.RegionHeld3
import Derived.WalkSpells
set_option maxRecDepth 100000
set_option linter.unusedSectionVars false
namespace Go.Proofs.YtbnppjmmlfncmaaGreatDoor
open Go.RowKit
variable [Fo]
theorem ne_bne {k n : Int} (h : k ≠ n) : (k != n) = true:=by simpa using h
theorem ne_beq {k n : Int} (h : k ≠ n) : (k == n) = false:=beq_eq_false_iff_ne.2 h
section
variable (b o : Nat) (last : Int) (x : Ev) (w : World)
set_option maxHeartbeats 4000000 in
theorem contElem_any (h1 : w.cell? ⟨b,o + 1,none⟩ = some (.int .i64 last)) :
 Calls Tryz.prog 115 #[.pointer (some ⟨b,o,none⟩),evV x] w fun e w' => e = .returned (.bool (contElem last x.k (emptyT x.t))) /\ Below w.heap.size w w':=by
 unfold evV
 obtain ⟨k,t,v⟩:=x
 have hbel:=(Below.refl w.heap.size w).alloc (Nat.le_refl _) (.cells #[.int .i64 k,.string t,.string v] 67)
 have hc1:=cell?_alloc_old (.cells #[.int .i64 k,.string t,.string v] 67) h1
 simp only
 by_cases k11 : k = 11
 ·subst k11
  have hR : contElem last 11 (emptyT t) = decide (last = 0 \/ last = 11):=by unfold contElem; rw [if_pos rfl]
  rw [hR]
  clear hR
  by_cases l0 : last = 0
  ·subst l0
   go_enter Tryz.func115,Tryz.ntmps115
   go_wp2
   go_ret
   exact ⟨rfl,hbel⟩
  ·have d0:=ne_beq l0
   by_cases l11 : last = 11
   ·subst l11
    go_enter Tryz.func115,Tryz.ntmps115
    go_wp2
    go_ret
    exact ⟨rfl,hbel⟩
   ·have d11:=ne_beq l11
    rw [decide_eq_false (by omega : ¬ (last = 0 \/ last = 11))]
    go_enter Tryz.func115,Tryz.ntmps115
    go_wp2
    go_ret
    exact ⟨rfl,hbel⟩
 have c11:=ne_beq k11
 by_cases k4 : k = 4
 ·subst k4
  have hR : contElem last 4 (emptyT t) = (decide (last ≠ 4) && !emptyT t):=by unfold contElem; rw [if_neg (by decide),if_pos rfl]
  rw [hR]
  clear hR
  by_cases l4 : last = 4
  ·subst l4
   go_enter Tryz.func115,Tryz.ntmps115
   go_wp2
   go_ret
   exact ⟨rfl,hbel⟩
  ·have d4:=ne_beq l4
   have b4:=ne_bne l4
   rw [decide_eq_true l4,Bool.true_and]
   by_cases ht : t.size = 0
   ·obtain rfl:=str_nil ht
    rw [emptyT_nil]
    go_enter Tryz.func115,Tryz.ntmps115
    go_wp2
    go_ret
    exact ⟨rfl,hbel⟩
   ·have n1:=str_ne ht
    have n2:=str_ne2 ht
    rw [emptyT_no ht]
    go_enter Tryz.func115,Tryz.ntmps115
    go_wp2
    go_ret
    exact ⟨rfl,hbel⟩
 have c4:=ne_beq k4
 have hR : contElem last k (emptyT t) = decide (k = 10 \/ k = 12):=by unfold contElem; rw [if_neg k11,if_neg k4]
 rw [hR]
 clear hR
 by_cases k10 : k = 10
 ·subst k10
  go_enter Tryz.func115,Tryz.ntmps115
  go_wp2
  go_ret
  exact ⟨rfl,hbel⟩
 have c10:=ne_beq k10
 by_cases k12 : k = 12
 ·subst k12
  go_enter Tryz.func115,Tryz.ntmps115
  go_wp2
  go_ret
  exact ⟨rfl,hbel⟩
 have c12:=ne_beq k12
 rw [decide_eq_false (by omega : ¬ (k = 10 \/ k = 12))]
 go_enter Tryz.func115,Tryz.ntmps115
 go_wp2
 go_ret
 exact ⟨rfl,hbel⟩
set_option maxHeartbeats 4000000 in
theorem continues_any (kind : Int) (h0 : w.cell? ⟨b,o,none⟩ = some (.int .i64 kind)) (h1 : w.cell? ⟨b,o + 1,none⟩ = some (.int .i64 last)) :
 Calls Tryz.prog 79 #[.pointer (some ⟨b,o,none⟩),evV x] w fun e w' => e = .returned (.bool (contB kind last x.k (emptyT x.t))) /\ Below w.heap.size w w':=by
 unfold evV
 have hCE:=fun w' h => contElem_any b o last x w' h
 unfold evV at hCE
 obtain ⟨k,t,v⟩:=x
 have hbel:=(Below.refl w.heap.size w).alloc (Nat.le_refl _) (.cells #[.int .i64 k,.string t,.string v] 67)
 have hc0:=cell?_alloc_old (.cells #[.int .i64 k,.string t,.string v] 67) h0
 have hc1:=cell?_alloc_old (.cells #[.int .i64 k,.string t,.string v] 67) h1
 simp only at hCE ⊢
 obtain ⟨vk,hvk⟩ : ∃ vk,valueK k = vk:=⟨_,rfl⟩
 have HV:=Lib.hid hvk
 by_cases q5 : kind = 5
 ·subst q5
  have hR : contB 5 last k (emptyT t) = (vk || decide (k = 6)):=by unfold contB; rw [if_pos rfl,hvk]
  rw [hR]
  clear hR hvk
  cases vk with
  | true =>
   go_enter Tryz.func79,Tryz.ntmps79
   go_wp2_with (first
    | (go_at_call 114; refine (isValue_any k _).mono ?_; rintro e w' ⟨rfl,rfl⟩; rw [HV.out]))
   go_ret
   exact ⟨rfl,hbel⟩
  | false =>
   rw [Bool.false_or]
   by_cases k6 : k = 6
   ·subst k6
    go_enter Tryz.func79,Tryz.ntmps79
    go_wp2_with (first
     | (go_at_call 114; refine (isValue_any 6 _).mono ?_; rintro e w' ⟨rfl,rfl⟩; rw [HV.out]))
    go_ret
    exact ⟨rfl,hbel⟩
   ·have c6:=ne_beq k6
    rw [decide_eq_false k6]
    go_enter Tryz.func79,Tryz.ntmps79
    go_wp2_with (first
     | (go_at_call 114; refine (isValue_any k _).mono ?_; rintro e w' ⟨rfl,rfl⟩; rw [HV.out]))
    go_ret
    exact ⟨rfl,hbel⟩
 have d5:=ne_beq q5
 by_cases q7 : kind = 7
 ·subst q7
  by_cases l8 : last = 8
  ·subst l8
   have hR : contB 7 8 k (emptyT t) = vk:=by unfold contB; rw [if_neg (by decide),if_pos rfl,if_pos rfl,hvk]
   rw [hR]
   clear hR hvk
   go_enter Tryz.func79,Tryz.ntmps79
   go_wp2_with (first
    | (go_at_call 114; refine (isValue_any k _).mono ?_; rintro e w' ⟨rfl,rfl⟩; rw [HV.out]))
   go_ret
   exact ⟨rfl,hbel⟩
  ·have e8:=ne_beq l8
   have hR : contB 7 last k (emptyT t) = decide (k = 8 \/ k = 9):=by unfold contB; rw [if_neg (by decide),if_pos rfl,if_neg l8]
   rw [hR]
   clear hR hvk HV
   by_cases k8 : k = 8
   ·subst k8
    go_enter Tryz.func79,Tryz.ntmps79
    go_wp2
    go_ret
    exact ⟨rfl,hbel⟩
   have c8:=ne_beq k8
   by_cases k9 : k = 9
   ·subst k9
    go_enter Tryz.func79,Tryz.ntmps79
    go_wp2
    go_ret
    exact ⟨rfl,hbel⟩
   have c9:=ne_beq k9
   rw [decide_eq_false (by omega : ¬ (k = 8 \/ k = 9))]
   go_enter Tryz.func79,Tryz.ntmps79
   go_wp2
   go_ret
   exact ⟨rfl,hbel⟩
 have d7:=ne_beq q7
 by_cases q10 : kind = 10
 ·subst q10
  have hR : contB 10 last k (emptyT t) = contElem last k (emptyT t):=by unfold contB; rw [if_neg (by decide),if_neg (by decide),if_pos rfl]
  rw [hR]
  clear hR hvk HV
  generalize contElem last k (emptyT t) = ce at *
  go_enter Tryz.func79,Tryz.ntmps79
  go_wp2_with (first
   | (go_at_call 115; refine (hCE _ hc1).mono ?_; rintro e w1 ⟨rfl,hb1⟩; replace hbel:=hbel.trans (hb1.mono hbel.size)))
  go_ret
  exact ⟨rfl,hbel⟩
 have d10:=ne_beq q10
 have hR : contB kind last k (emptyT t) = (decide (last = 0) && vk):=by unfold contB; rw [if_neg q5,if_neg q7,if_neg q10,hvk]
 rw [hR]
 clear hR hvk hCE
 by_cases l0 : last = 0
 ·subst l0
  rw [decide_eq_true rfl,Bool.true_and]
  go_enter Tryz.func79,Tryz.ntmps79
  go_wp2_with (first
   | (go_at_call 114; refine (isValue_any k _).mono ?_; rintro e w' ⟨rfl,rfl⟩; rw [HV.out]))
  go_ret
  exact ⟨rfl,hbel⟩
 ·have e0:=ne_beq l0
  rw [decide_eq_false l0,Bool.false_and]
  go_enter Tryz.func79,Tryz.ntmps79
  go_wp2
  go_ret
  exact ⟨rfl,hbel⟩
end
end Go.Proofs.YtbnppjmmlfncmaaGreatDoor
namespace Go.Proofs.YtbnppjmmlfncmaaGreatDoor
open Go.RowKit Go.Maps
variable [Fo]
theorem strLaw : Keyed Tryz.prog 9:=string_keyed Tryz.underlying9
def SetAt (w : World) (b : Nat) (ks : List (List UInt8)) : Prop :=
 ∃ D,w.ownsMap (H:=Unit) Tryz.prog 9 unitElem b ks.length D /\ (∀ p,Maps.has D (.string p) = decide (p ∈ ks)) /\ Maps.size D = ks.length
section
variable {w w' : World} {b : Nat} {ks : List (List UInt8)}
theorem SetAt.lt (h : SetAt w b ks) : b < w.heap.size:=by obtain ⟨D,h,_⟩:=h; exact h.lt
theorem SetAt.obj (h : SetAt w b ks) : ∃ es c,w.heap[b]? = some (.map es c):=by obtain ⟨D,⟨es,c,hb,_⟩,_⟩:=h; exact ⟨es,c,hb⟩
theorem SetAt.keep (h : SetAt w b ks) (hk : w'.heap[b]? = w.heap[b]?) : SetAt w' b ks:=by
 obtain ⟨D,⟨es,c,hb,r⟩,h2⟩:=h
 exact ⟨D,⟨es,c,hk.trans hb,r⟩,h2⟩
theorem SetAt.new (w : World) : SetAt (w.alloc (.map #[] 0)) w.heap.size [] :=
 ⟨.map [],World.ownsMap_made w _ _ _,fun _ => rfl,rfl⟩
theorem SetAt.put (h : SetAt w b ks) {p : ByteArray} (hp : p.size <= maxLen) (hn : ks.length < maxLen) (hl : p.data.toList ∉ ks) :
 ∃ w',(Instr.mapUpdate 122 (.map (some b)) (.string p) (.agg #[])).run Tryz.prog w = .ok () w' /\ SetAt w' b (p.data.toList :: ks) /\ w.grownBy w' (some b):=by
 obtain ⟨D,h1,h2,h4⟩:=h
 obtain ⟨w',hr,ho,hg⟩:=h1.update (t:=122) strLaw Tryz.underlying122 hn (WideMaps.keyOf_string_mk Tryz.underlying9 hp) unitElem_mk
 have hk : WideAt.IsKeyLit (.string p.data.toList):=by simp [WideAt.IsKeyLit]
 have hT:=h1.tidy strLaw
 refine ⟨w',hr,⟨_,ho,fun q => ?_,?_⟩,hg⟩
 ·by_cases hq : q = p.data.toList
  ·subst hq
   rw [has_put_same h1.isMap hk]
   simp
  ·rw [has_put_other (by simpa using hq),h2]
   simp [hq]
 ·rw [size_put hT,h2,decide_eq_false hl]
  simp [h4]
end
def KeysAt (w : World) : Option Nat -> List (List UInt8) -> Prop
 | none,ks => ks = []
 | some b,ks => SetAt w b ks
section
variable {w : World} {m : Option Nat} {ks : List (List UInt8)} {ops : Array Oper} {rest : List Oper} {o : Oper} {a : Act} {Q : Exit -> Act -> World -> Prop}
theorem wp_lookK (h : KeysAt w m ks) (hg : o.guard = none) (x y : Operand) (hop : o.op = Op.lookup 122 x y true) (p : ByteArray) (hp : p.size <= 140737488355328) (hm : a.eval x = .map m) (hx : a.eval y = .string p)
 (hK : wpList Tryz.prog ops Q rest (a.put o.dst (.tuple #[.agg #[],.bool (decide (p.data.toList ∈ ks))])) w) :
 wpList Tryz.prog ops Q (o :: rest) a w:=by
 have hkey:=WideMaps.keyOf_string_mk (P:=Tryz.prog) Tryz.underlying9 (s:=p) (by simp only [maxLen]; omega)
 cases m with
 | none =>
  obtain rfl : ks = []:=h
  rw [decide_eq_false (by simp)] at hK
  refine wpList_plain hg fun K hK' => ?_
  have hr:=Maps.look_nil (w:=w) true strLaw Tryz.underlying122 (Tryz.zeroValue148 _) hkey
  unfold Oper.wp
  simp [execOp,hop,hm,hx,hr,Result.andThen]
  exact hK' _ _ hK
 | some b =>
  obtain ⟨D,h1,h2,_⟩:=h
  refine wpList_lookup_own_unit w hg x y _ hop 9 148 strLaw Tryz.underlying122 (Tryz.zeroValue148 _) b _ D hm h1 _ _ hx hkey ?_
  rw [h2]
  exact hK
theorem wp_lenK (h : KeysAt w m ks) (hg : o.guard = none) (x : Operand) (hop : o.op = Op.call { callee:=Callee.builtin Builtin.len,args:=#[x],argTypes:=#[122] }) (hm : a.eval x = .map m)
 (hK : wpList Tryz.prog ops Q rest (a.put o.dst (.int .i64 ks.length)) w) :
 wpList Tryz.prog ops Q (o :: rest) a w:=by
 cases m with
 | none =>
  obtain rfl : ks = []:=h
  refine wpList_plain hg fun K hK' => ?_
  have hr:=Maps.len_nil (w:=w) (P:=Tryz.prog) Tryz.underlying122 o.type
  unfold Oper.wp
  simp [execOp,hop,resolve,invoke,builtin,hm,hr,Result.andThen]
  exact hK' _ _ hK
 | some b =>
  obtain ⟨D,h1,_,h4⟩:=h
  refine wpList_len_own w hg x _ hop 9 148 Tryz.underlying122 unitElem b _ D hm h1 ?_
  rw [h4]
  exact hK
end
structure PQ where
 p : Pt
 m : Option Nat
def qc (q : PQ) : List Value:=[.int .i64 q.p.kind,.int .i64 q.p.last,.map q.m]
def qcs : List PQ -> List Value
 | [] => []
 | q :: r => qcs r ++ qc q
def ptsOf (qs : List PQ) : List Pt:=qs.map (·.p)
theorem qcs_len : ∀ qs : List PQ,(qcs qs).length = qs.length * 3
 | [] => rfl
 | q :: r => by simp [qcs,qcs_len r,qc]; omega
theorem qcs_head (q : PQ) (r : List PQ) (j : Nat) (hj : j < 3) : (qcs (q :: r))[r.length * 3 + j]? = (qc q)[j]?:=by
 rw [qcs,List.getElem?_append_right (by rw [qcs_len]; omega),qcs_len]
 congr 1
 omega
theorem qcs_set (q : PQ) (r : List PQ) (j : Nat) (hj : j < 3) (u : Value) (q' : PQ) (h : (qc q).set j u = qc q') : (qcs (q :: r)).set (r.length * 3 + j) u = qcs (q' :: r):=by
 simp only [qcs]
 rw [List.set_append_right _ _ (by rw [qcs_len]; omega),qcs_len,show r.length * 3 + j - r.length * 3 = j by omega,h]
def MapsOk (w : World) (base : Nat) : List PQ -> Prop
 | [] => True
 | q :: r => (∀ b,q.m = some b -> (base <= b /\ ¬ Fo.F b) /\ ∀ q' ∈ r,q'.m ≠ some b) /\ KeysAt w q.m q.p.keys /\ MapsOk w base r
theorem KeysAt.keep {w w' : World} {m : Option Nat} {ks : List (List UInt8)} (h : KeysAt w m ks) (hk : ∀ b,m = some b -> (∃ es c,w.heap[b]? = some (.map es c)) -> w'.heap[b]? = w.heap[b]?) : KeysAt w' m ks:=by
 cases m with
 | none => exact h
 | some b => exact SetAt.keep h (hk b rfl (SetAt.obj h))
theorem MapsOk.keep {w w' : World} {base : Nat} : ∀ {qs : List PQ},MapsOk w base qs -> (∀ q ∈ qs,∀ b,q.m = some b -> (∃ es c,w.heap[b]? = some (.map es c)) -> w'.heap[b]? = w.heap[b]?) -> MapsOk w' base qs
 | [],_,_ => trivial
 | q :: _,h,hk => ⟨h.1,h.2.1.keep (hk q List.mem_cons_self),MapsOk.keep h.2.2 fun q' hq => hk q' (List.mem_cons_of_mem _ hq)⟩
theorem MapsOk.lt {w : World} {base : Nat} : ∀ {qs : List PQ},MapsOk w base qs -> ∀ q ∈ qs,∀ b,q.m = some b -> b < w.heap.size
 | [],_,q,hq,_,_ => by cases hq
 | q :: r,h,q',hq,b,hb => by
  rcases List.mem_cons.1 hq with rfl | hq
  ·have:=h.2.1
   rw [hb] at this
   exact SetAt.lt this
  ·exact MapsOk.lt h.2.2 q' hq b hb
structure CRep (w : World) (base g rb cap : Nat) (qs : List PQ) : Prop where
 hg : base <= g
 blk : Blk w g 127 #[.slice (some ⟨rb,0,none⟩) qs.length cap]
 row : w.ownsRow base 124 3 (.slice (some ⟨rb,0,none⟩) qs.length cap) qs.length (qcs qs)
 maps : MapsOk w base qs
 nf : ¬ Fo.F g /\ ¬ Fo.F rb /\ Fo.lim <= w.heap.size
def CAt (w : World) (base g : Nat) (st : List Pt) : Prop:=∃ rb cap qs,ptsOf qs = st /\ CRep w base g rb cap qs
def cObj : Obj -> Prop
 | .cells _ t _ => t = 127 \/ t = 124
 | .map _ _ => True
 | _ => False
theorem rowN_block {w : World} {base r : Nat} {e : TypeId} {size n cap m : Nat} {xs : List Value} (h : w.ownsRow base e size (.slice (some ⟨r,0,none⟩) n cap) m xs) : base <= r /\ r < w.heap.size /\ n <= cap /\ cap <= maxLen /\ n = m /\ (∀ k,w.frozen? ⟨r,k,none⟩ = false) /\ ∃ cur,w.heap[r]? = some (.cells cur e (0,0)) /\ cur.size = cap * size /\ cur.toList.take (m * size) = xs:=by
 rcases h.2 with ⟨hv,_⟩ | ⟨g,c,cur,hv,hg,hh,hnc,hm,hs,ht⟩
 ·cases hv
 ·injection hv with h1 h2 h3
  injection h1 with h1
  injection h1 with h1
  subst h1 h2 h3
  exact ⟨hg,Blk.lt hh,hnc,hm,rfl,fun k => Blk.frozen hh k,cur,hh,hs,ht⟩
theorem rowN_cell {w : World} {base r : Nat} {e : TypeId} {size n cap : Nat} {xs : List Value} (h : w.ownsRow base e size (.slice (some ⟨r,0,none⟩) n cap) n xs) {i : Nat} (hi : i < n * size) : w.cell? ⟨r,i,none⟩ = xs[i]?:=by
 obtain ⟨_,_,_,_,_,_,cur,hh,hs,ht⟩:=rowN_block h
 rw [Blk.cell hh,<- ht,List.getElem?_take_of_lt hi,Array.getElem?_toList]
theorem rowN_set {w : World} {base r : Nat} {e : TypeId} {size n cap : Nat} {xs : List Value} (h : w.ownsRow base e size (.slice (some ⟨r,0,none⟩) n cap) n xs) (i : Nat) (u : Value) : (w.setCell ⟨r,i,none⟩ u).ownsRow base e size (.slice (some ⟨r,0,none⟩) n cap) n (xs.set i u):=by
 obtain ⟨hg,_,hnc,hm,_,_,cur,hh,hs,ht⟩:=rowN_block h
 refine ⟨by rw [List.length_set]; exact h.1,.inr ⟨r,cap,cur.setIfInBounds i u,rfl,hg,Blk.set_ hh i u,hnc,hm,by simp [hs],?_⟩⟩
 rw [Array.toList_setIfInBounds,List.take_set,ht]
theorem rowN_cut {w : World} {base r : Nat} {e : TypeId} {size n cap : Nat} {xs : List Value} (h : w.ownsRow base e size (.slice (some ⟨r,0,none⟩) n cap) n xs) {m : Nat} (hmn : m <= n) : w.ownsRow base e size (.slice (some ⟨r,0,none⟩) m cap) m (xs.take (m * size)):=by
 obtain ⟨hg,_,hnc,hm,_,_,cur,hh,hs,ht⟩:=rowN_block h
 have hms : m * size <= n * size:=Nat.mul_le_mul_right _ hmn
 refine ⟨?_,.inr ⟨r,cap,cur,rfl,hg,hh,by omega,hm,hs,?_⟩⟩
 ·rw [List.length_take,h.1,Nat.min_eq_left hms]
 ·rw [<- ht,List.take_take,Nat.min_eq_left hms]
section
variable {w w' : World} {base g rb cap : Nat} {qs : List PQ}
theorem CRep.lt (h : CRep w base g rb cap qs) : g < w.heap.size:=h.blk.lt
theorem CRep.rb_lt (h : CRep w base g rb cap qs) : rb < w.heap.size:=(rowN_block h.row).2.1
theorem CRep.rb_ge (h : CRep w base g rb cap qs) : base <= rb:=(rowN_block h.row).1
theorem CRep.rb_ne (h : CRep w base g rb cap qs) : g ≠ rb:=by
 obtain ⟨_,_,_,_,_,_,cur,hh,_⟩:=rowN_block h.row
 rintro rfl
 have:=h.blk
 unfold Blk at this
 rw [hh] at this
 cases this
theorem CRep.row_obj (h : CRep w base g rb cap qs) : ∃ cur,w.heap[rb]? = some (.cells cur 124 (0,0)):=by
 obtain ⟨_,_,_,_,_,_,cur,hh,_⟩:=rowN_block h.row
 exact ⟨cur,hh⟩
theorem CRep.map_ne (h : CRep w base g rb cap qs) {b : Nat} (hb : ∃ es c,w.heap[b]? = some (.map es c)) : b ≠ g /\ b ≠ rb:=by
 obtain ⟨es,c,hb⟩:=hb
 obtain ⟨cur,hh⟩:=h.row_obj
 constructor
 ·rintro rfl
  have:=h.blk
  unfold Blk at this
  rw [hb] at this
  cases this
 ·rintro rfl
  rw [hb] at hh
  cases hh
theorem CRep.tch {p : Obj -> Prop} (h : CRep w base g rb cap qs) (ht : Tch base p w w') (h1 : ∀ cs t fr,t = 127 \/ t = 124 -> ¬ p (.cells cs t fr)) (h2 : ∀ es c,¬ p (.map es c)) : CRep w' base g rb cap qs :=
 ⟨h.hg,h.blk.tch ht (.inr (h1 _ _ _ (.inl rfl))),row_tch h.row ht (fun _ _ => h1 _ _ _ (.inr rfl)),h.maps.keep fun q _ b _ hb => by
  obtain ⟨es,c,hb⟩:=hb
  rw [ht.block b _ hb (.inr (.inl (h2 _ _))),hb],h.nf.1,h.nf.2.1,Nat.le_trans h.nf.2.2 ht.size⟩
theorem CRep.below (h : CRep w base g rb cap qs) (hb : Below w.heap.size w w') : CRep w' base g rb cap qs :=
 h.tch (p:=fun _ => False) (Tch.of_below hb) (fun _ _ _ _ h => h) (fun _ _ h => h)
theorem CRep.alloc (h : CRep w base g rb cap qs) (o : Obj) : CRep (w.alloc o) base g rb cap qs:=h.below ((Below.refl _ _).alloc (Nat.le_refl _) _)
theorem CRep.drewN (h : CRep w base g rb cap qs) (n : Nat) : CRep (w.drewN n) base g rb cap qs:=h.below (below_drewN (Below.refl _ _) _)
theorem CRep.drew (h : CRep w base g rb cap qs) : CRep w.drew base g rb cap qs:=h.below (below_drew (Below.refl _ _))
theorem CRep.c (h : CRep w base g rb cap qs) : w.cell? ⟨g,0,none⟩ = some (.slice (some ⟨rb,0,none⟩) qs.length cap):=h.blk.cell 0
variable {q : PQ} {r : List PQ}
theorem CRep.c0 (h : CRep w base g rb cap (q :: r)) : w.cell? ⟨rb,r.length * 3,none⟩ = some (.int .i64 q.p.kind):=by
 rw [rowN_cell h.row (by simp only [List.length_cons]; omega)]
 exact qcs_head q r 0 (by omega)
theorem CRep.c1 (h : CRep w base g rb cap (q :: r)) : w.cell? ⟨rb,r.length * 3 + 1,none⟩ = some (.int .i64 q.p.last):=by
 rw [rowN_cell h.row (by simp only [List.length_cons]; omega)]
 exact qcs_head q r 1 (by omega)
theorem CRep.c2 (h : CRep w base g rb cap (q :: r)) : w.cell? ⟨rb,r.length * 3 + 2,none⟩ = some (.map q.m):=by
 rw [rowN_cell h.row (by simp only [List.length_cons]; omega)]
 exact qcs_head q r 2 (by omega)
theorem CRep.frz (h : CRep w base g rb cap qs) (k : Nat) : w.frozen? ⟨rb,k,none⟩ = false:=(rowN_block h.row).2.2.2.2.2.1 k
theorem CRep.set (h : CRep w base g rb cap (q :: r)) (j : Nat) (hj : j < 3) (u : Value) (q' : PQ) (hq : (qc q).set j u = qc q') (hm : MapsOk (w.setCell ⟨rb,r.length * 3 + j,none⟩ u) base (q' :: r)) : CRep (w.setCell ⟨rb,r.length * 3 + j,none⟩ u) base g rb cap (q' :: r):=by
 refine ⟨h.hg,h.blk.far (p:=⟨rb,r.length * 3 + j,none⟩) h.rb_ne u,?_,hm,h.nf.1,h.nf.2.1,by simpa [World.setCell] using h.nf.2.2⟩
 have:=rowN_set h.row (r.length * 3 + j) u
 rw [qcs_set q r j hj u q' hq] at this
 exact this
theorem CRep.set_maps (h : CRep w base g rb cap qs) (i : Nat) (u : Value) : MapsOk (w.setCell ⟨rb,i,none⟩ u) base qs :=
 h.maps.keep fun _ _ b _ hb => Below.heap_setCell w ⟨rb,i,none⟩ u b (h.map_ne hb).2
theorem CRep.set_last (h : CRep w base g rb cap (q :: r)) (k : Int) : CRep (w.setCell ⟨rb,r.length * 3 + 1,none⟩ (.int .i64 k)) base g rb cap (⟨{ q.p with last:=k },q.m⟩ :: r) :=
 h.set 1 (by omega) _ _ rfl ((h.set_maps _ _ : MapsOk _ base (q :: r)))
theorem CRep.touch (h : CRep w base g rb cap qs) (i : Nat) (u : Value) : Tch base cObj w (w.setCell ⟨rb,i,none⟩ u):=by
 obtain ⟨cur,hh⟩:=h.row_obj
 exact (Tch.refl _ _ _).set (cs:=cur) hh h.rb_ge h.nf.2.1 (.inr rfl) i u
theorem CRep.touch_g (h : CRep w base g rb cap qs) (u : Value) : Tch base cObj w (w.setCell ⟨g,0,none⟩ u):=(Tch.refl _ _ _).set h.blk h.hg h.nf.1 (.inl rfl) 0 u
end
theorem CAt.lt {w : World} {base g : Nat} {st : List Pt} (h : CAt w base g st) : g < w.heap.size:=by obtain ⟨_,_,_,_,h⟩:=h; exact h.lt
theorem CAt.lim {w : World} {base g : Nat} {st : List Pt} (h : CAt w base g st) : Fo.lim <= w.heap.size:=by obtain ⟨_,_,_,_,h⟩:=h; exact h.nf.2.2
theorem CAt.below {w w' : World} {base g : Nat} {st : List Pt} (h : CAt w base g st) (hb : Below w.heap.size w w') : CAt w' base g st:=by
 obtain ⟨rb,cap,qs,hq,h⟩:=h
 exact ⟨rb,cap,qs,hq,h.below hb⟩
theorem CAt.tch {w w' : World} {base g : Nat} {st : List Pt} {p : Obj -> Prop} (h : CAt w base g st) (ht : Tch base p w w') (h1 : ∀ cs t fr,t = 127 \/ t = 124 -> ¬ p (.cells cs t fr)) (h2 : ∀ es c,¬ p (.map es c)) : CAt w' base g st:=by
 obtain ⟨rb,cap,qs,hq,h⟩:=h
 exact ⟨rb,cap,qs,hq,h.tch ht h1 h2⟩
theorem cnew_any (w : World) (base : Nat) (hb : base <= w.heap.size) (hfl : Fo.lim <= w.heap.size) : Calls Tryz.prog 43 #[] w fun e w' => ∃ g,e = .returned (.pointer (some ⟨g,0,none⟩)) /\ w.heap.size <= g /\ CAt w' base g [topP] /\ Below w.heap.size w w':=by
 go_enter Tryz.func43,Tryz.ntmps43
 go_wp2
 go_ret
 refine ⟨_,rfl,Nat.le_add_right _ 1,⟨w.heap.size,1,[⟨topP,none⟩],rfl,by omega,?_,?_,?_,nf_new (by omega),nf_new hfl,?_⟩,?_⟩
 ·have:=Blk.new (w.alloc (.cells #[.int .i64 0,.int .i64 0,.map none] 124)) 127 #[.slice (some ⟨w.heap.size,0,none⟩) 1 1]
  simpa using this
 ·exact World.ownsRow.alloc (World.ownsRow_lit (base:=base) (e:=124) (size:=3) w #[.int .i64 0,.int .i64 0,.map none] 1 hb (by decide) rfl) _
 ·exact ⟨fun b hb => (by cases hb),rfl,trivial⟩
 ·simp; omega
 ·exact ((Below.refl _ _).alloc (Nat.le_refl _) _).alloc (by simp) _
theorem depth_any (w : World) (base g : Nat) (st : List Pt) (h : CAt w base g st) (hl : st.length <= 7) : Calls Tryz.prog 81 #[.pointer (some ⟨g,0,none⟩)] w fun e w' => e = .returned (.int .i64 ((st.length : Int) - 1)) /\ w' = w:=by
 obtain ⟨rb,cap,qs,rfl,h⟩:=h
 have hc:=h.c
 have hlt:=h.lt
 have e : (ptsOf qs).length = qs.length:=by simp [ptsOf]
 rw [e] at hl ⊢
 clear h e
 go_enter Tryz.func81,Tryz.ntmps81
 go_wp2
 go_ret
 exact ⟨rfl,rfl⟩
end Go.Proofs.YtbnppjmmlfncmaaGreatDoor
namespace Go.Proofs.YtbnppjmmlfncmaaGreatDoor
open Go.RowKit Go.Maps
variable [Fo]
section
variable {w : World} {base g rb cap : Nat} {q : PQ} {r : List PQ}
theorem CRep.pop (h : CRep w base g rb cap (q :: r)) : CRep (w.setCell ⟨g,0,none⟩ (.slice (some ⟨rb,0,none⟩) r.length cap)) base g rb cap r:=by
 refine ⟨h.hg,h.blk.set_ 0 _,?_,?_,h.nf.1,h.nf.2.1,by simpa [World.setCell] using h.nf.2.2⟩
 ·have h1:=rowN_cut h.row (m:=r.length) (by simp)
  rw [show (qcs (q :: r)).take (r.length * 3) = qcs r by simp only [qcs]; rw [List.take_append_of_le_length (by rw [qcs_len]; omega),List.take_of_length_le (by rw [qcs_len]; omega)]] at h1
  refine World.ownsRow.kept (row:=some g) h1 (only_setCell (p:=⟨g,0,none⟩) (World.grownBy.refl _ (some g)) (.inl rfl) _) (.inr ?_)
  intro e
  injection e with e
  exact h.rb_ne e.symm
 ·exact h.maps.2.2.keep fun _ _ b _ hb => Below.heap_setCell w ⟨g,0,none⟩ _ b (h.map_ne hb).1
theorem CRep.closed (h : CRep w base g rb cap (q :: r)) :
 CRep ((((w.setCell ⟨rb,r.length * 3,none⟩ (.int .i64 0)).setCell ⟨rb,r.length * 3 + 1,none⟩ (.int .i64 0)).setCell ⟨rb,r.length * 3 + 2,none⟩ (.map none)).setCell ⟨g,0,none⟩ (.slice (some ⟨rb,0,none⟩) r.length cap)) base g rb cap r /\
 Tch base cObj w ((((w.setCell ⟨rb,r.length * 3,none⟩ (.int .i64 0)).setCell ⟨rb,r.length * 3 + 1,none⟩ (.int .i64 0)).setCell ⟨rb,r.length * 3 + 2,none⟩ (.map none)).setCell ⟨g,0,none⟩ (.slice (some ⟨rb,0,none⟩) r.length cap)):=by
 have h1 : CRep (w.setCell ⟨rb,r.length * 3,none⟩ (.int .i64 0)) base g rb cap (⟨{ q.p with kind:=0 },q.m⟩ :: r):=h.set 0 (by omega) _ _ rfl (h.set_maps _ _ : MapsOk _ base (q :: r))
 have h2:=h1.set_last 0
 have h3:=h2.set 2 (by omega) (.map none) ⟨⟨0,0,[]⟩,none⟩ rfl ⟨fun b hb => (by cases hb),rfl,(h2.set_maps _ _ : MapsOk _ base (_ :: r)).2.2⟩
 exact ⟨h3.pop,(((h.touch _ _).trans (h1.touch _ _)).trans (h2.touch _ _)).trans (h3.touch_g _)⟩
end
theorem close_any (w : World) (base g rb cap : Nat) (q : PQ) (r : List PQ) (h : CRep w base g rb cap (q :: r)) (hl : r.length <= 6) : Calls Tryz.prog 80 #[.pointer (some ⟨g,0,none⟩)] w fun e w' => e = .returned (.tuple #[]) /\ CRep w' base g rb cap r /\ Tch base cObj w w':=by
 have hc : w.cell? ⟨g,0,none⟩ = some (.slice (some ⟨rb,0,none⟩) (r.length + 1) cap):=h.c
 have c0:=h.c0
 have c1:=h.c1
 have c2:=h.c2
 have hlt:=h.lt
 have hlr:=h.rb_lt
 have hne:=h.rb_ne
 have f0:=h.frz (r.length * 3)
 have f1:=h.frz (r.length * 3 + 1)
 have f2:=h.frz (r.length * 3 + 2)
 have fg:=h.blk.frozen 0
 obtain ⟨_,_,hcap,hcm,_,_,_⟩:=rowN_block h.row
 have hcap2 : r.length + 1 <= cap:=by simpa using hcap
 have hcm2 : cap <= 9223372036854775807:=by simpa [maxLen] using hcm
 go_enter Tryz.func80,Tryz.ntmps80
 go_wp2
 go_end0
 obtain ⟨r1,r2⟩:=h.closed
 exact ⟨rfl,r1,r2⟩
section
variable {w w' : World} {base g rb cap b : Nat} {q : PQ} {r : List PQ} {ks : List (List UInt8)}
theorem CRep.keyed (h : CRep w base g rb cap (q :: r)) (hq : q.m = some b) (hg : w.grownBy w' (some b)) (hs : SetAt w' b ks) : CRep w' base g rb cap (⟨{ q.p with keys:=ks },some b⟩ :: r) /\ Tch base cObj w w':=by
 have hm:=h.maps
 have hb:=hm.1 b hq
 have hk : SetAt w b q.p.keys:=by have:=hm.2.1; rw [hq] at this; exact this
 obtain ⟨es,c,ho⟩:=hk.obj
 have hne:=h.map_ne ⟨es,c,ho⟩
 refine ⟨⟨h.hg,h.blk.grown hg (by intro e; injection e with e; exact hne.1 e.symm),?_,⟨?_,hs,?_⟩,h.nf.1,h.nf.2.1,Nat.le_trans h.nf.2.2 hg.size⟩,Tch.of_grown hg hb.1.1 hb.1.2 ho trivial⟩
 ·have h1:=World.ownsRow.kept h.row hg (.inr (by intro e; injection e with e; exact hne.2 e.symm))
  have e : qcs (⟨{ q.p with keys:=ks },some b⟩ :: r) = qcs (q :: r):=by simp only [qcs,qc,hq]
  rw [e]
  exact h1
 ·intro b' hb'
  injection hb' with hb'
  subst hb'
  exact hb
 ·refine hm.2.2.keep fun q' hq' b' hb' ho' => hg.block b' ?_ ?_
  ·obtain ⟨es',c',ho'⟩:=ho'
   exact (Array.getElem?_eq_some_iff.1 ho').1
  ·intro e
   injection e with e
   subst e
   exact hb.2 q' hq' hb'
theorem CRep.mapped (h : CRep w base g rb cap (q :: r)) (hk : q.p.keys = []) (hbase : base <= w.heap.size) : CRep ((w.alloc (.map #[] 0)).setCell ⟨rb,r.length * 3 + 2,none⟩ (.map (some w.heap.size))) base g rb cap (⟨q.p,some w.heap.size⟩ :: r) /\
 Tch base cObj w ((w.alloc (.map #[] 0)).setCell ⟨rb,r.length * 3 + 2,none⟩ (.map (some w.heap.size))):=by
 have h1:=h.alloc (.map #[] 0)
 refine ⟨h1.set 2 (by omega) _ ⟨q.p,some w.heap.size⟩ rfl ⟨?_,?_,(h1.set_maps _ _ : MapsOk _ base (_ :: r)).2.2⟩,((Tch.refl base cObj w).alloc _).trans (h1.touch _ _)⟩
 ·intro b hb
  injection hb with hb
  subst hb
  refine ⟨⟨hbase,nf_new h.nf.2.2⟩,fun q' hq' hc => ?_⟩
  have:=h.maps.lt q' (List.mem_cons_of_mem _ hq') _ hc
  omega
 ·show SetAt _ _ q.p.keys
  rw [hk]
  refine (SetAt.new w).keep (Below.heap_setCell _ ⟨rb,r.length * 3 + 2,none⟩ _ _ ?_)
  have:=h.rb_lt
  show w.heap.size ≠ rb
  omega
end
def addE (ks : List (List UInt8)) (k : List UInt8) : Int:=if k ∈ ks then 6 else if 10 <= ks.length then 7 else 0
def addK (ks : List (List UInt8)) (k : List UInt8) : List (List UInt8):=if addE ks k = 0 then k :: ks else ks
def APost (w : World) (base g rb cap : Nat) (q : PQ) (r : List PQ) (k : List UInt8) (e : Ending) (w' : World) : Prop :=
 e = .returned (.int .i64 (addE q.p.keys k)) /\ (∃ m,CRep w' base g rb cap (⟨{ q.p with keys:=addK q.p.keys k },m⟩ :: r)) /\ Tch base cObj w w'
set_option maxHeartbeats 4000000 in
theorem add_refused (w : World) (base g rb cap : Nat) (q : PQ) (r : List PQ) (k : ByteArray) (h : CRep w base g rb cap (q :: r)) (hs : k.size <= 140737488355328) (hE : addE q.p.keys k.data.toList ≠ 0) :
 Calls Tryz.prog 82 #[.pointer (some ⟨rb,r.length * 3,none⟩),.string k] w (APost w base g rb cap q r k.data.toList):=by
 have hK : addK q.p.keys k.data.toList = q.p.keys:=by unfold addK; rw [if_neg hE]
 unfold APost
 rw [hK]
 have hF : CRep (w.alloc (.cells #[] 148)) base g rb cap (⟨{ q.p with keys:=q.p.keys },q.m⟩ :: r):=h.alloc _
 have T:=(Tch.refl base cObj w).alloc (.cells #[] 148)
 have hkeys:=h.maps.2.1
 have hkeys1:=hF.maps.2.1
 have c2:=h.c2
 have c2':=hF.c2
 have hlr:=h.rb_lt
 clear h hK
 generalize q.m = m at *
 by_cases hm : k.data.toList ∈ q.p.keys
 ·have hE2 : addE q.p.keys k.data.toList = 6:=by unfold addE; rw [if_pos hm]
  rw [hE2]
  have HD:=Lib.hid (decide_eq_true hm)
  clear hE2 hE hm hkeys1
  go_enter Tryz.func82,Tryz.ntmps82
  go_wp2_with (first
   | (at_lookup; refine wp_lookK hkeys rfl _ _ rfl k hs rfl rfl ?_; rw [HD.out]))
  go_ret
  exact ⟨rfl,⟨_,hF⟩,T⟩
 ·have hE2 : addE q.p.keys k.data.toList = 7:=by
   unfold addE at hE ⊢; rw [if_neg hm] at hE ⊢
   split at hE
   ·rename_i h10; rw [if_pos h10]
   ·exact absurd rfl hE
  have h10 : 10 <= q.p.keys.length:=by
   unfold addE at hE2; rw [if_neg hm] at hE2; split at hE2
   ·assumption
   ·exact absurd hE2 (by decide)
  rw [hE2]
  have HD:=Lib.hid (decide_eq_false hm)
  clear hE2 hE hm
  go_enter Tryz.func82,Tryz.ntmps82
  go_wp2_with (first
   | (at_lookup; refine wp_lookK hkeys rfl _ _ rfl k hs rfl rfl ?_; rw [HD.out])
   | (at_len; refine wp_lenK hkeys1 rfl _ rfl rfl ?_))
  go_ret
  exact ⟨rfl,⟨_,hF⟩,T⟩
end Go.Proofs.YtbnppjmmlfncmaaGreatDoor
namespace Go.Proofs.YtbnppjmmlfncmaaGreatDoor
open Go.RowKit Go.Maps
variable [Fo]
set_option maxHeartbeats 4000000 in
theorem add_kept (w : World) (base g rb cap : Nat) (q : PQ) (r : List PQ) (k : ByteArray) (h : CRep w base g rb cap (q :: r)) (hs : k.size <= 140737488355328) (hE : addE q.p.keys k.data.toList = 0) :
 Calls Tryz.prog 82 #[.pointer (some ⟨rb,r.length * 3,none⟩),.string k] w (APost w base g rb cap q r k.data.toList):=by
 have hK : addK q.p.keys k.data.toList = k.data.toList :: q.p.keys:=by unfold addK; rw [if_pos hE]
 unfold APost
 rw [hK,hE]
 have hm : k.data.toList ∉ q.p.keys:=by
  intro hc; unfold addE at hE; rw [if_pos hc] at hE; exact absurd hE (by decide)
 have h10 : q.p.keys.length < 10:=by
  unfold addE at hE; rw [if_neg hm] at hE; split at hE
  ·exact absurd hE (by decide)
  ·omega
 have hF : CRep (w.alloc (.cells #[] 148)) base g rb cap (⟨q.p,q.m⟩ :: r):=h.alloc _
 have T:=(Tch.refl base cObj w).alloc (.cells #[] 148)
 have hkeys:=h.maps.2.1
 have hkeys1:=hF.maps.2.1
 have c2:=h.c2
 have c2':=hF.c2
 have hlr:=h.rb_lt
 have HD:=Lib.hid (decide_eq_false hm)
 have HM:=Lib.hid hm
 have hbase : base <= (w.alloc (.cells #[] 148)).heap.size:=by have:=h.hg; have:=h.lt; simp; omega
 clear h hK hE hm
 obtain ⟨p,m⟩:=q
 simp only at hkeys hkeys1 c2 c2' hF h10 HD HM ⊢
 have hmm:=@run_makeMap Tryz.prog
 have hq : ∀ (w : World) (r : Option Nat),(binOp .eql 122 (.map r) (.map none)).run Tryz.prog w = .ok (.bool r.isNone) w:=fun w r => run_eql_map_nil w _ _ _ r Tryz.underlying122
 cases m with
 | none =>
  have hA:=hF.alloc (.map #[] 0)
  obtain ⟨hM,TM⟩:=hF.mapped (show p.keys = [] from hkeys) hbase
  have TM2:=T.trans TM
  rw [World.setCell_alloc_past _ _ _ _ (by simp; omega),World.setCell_alloc_past _ _ _ _ hlr,World.size_alloc] at hM TM2
  have ca:=hA.c2
  have hfz:=hA.frz (r.length * 3 + 2)
  have hmc:=hM.drew.c2
  have hsk : k.size <= maxLen:=by simp only [maxLen]; omega
  have hlk : p.keys.length < maxLen:=by simp only [maxLen]; omega
  clear T TM hbase hA hF
  go_enter Tryz.func82,Tryz.ntmps82
  go_wp2_with (first
   | (at_lookup; refine wp_lookK hkeys rfl _ _ rfl k hs rfl rfl ?_; rw [HD.out])
   | (at_len; refine wp_lenK hkeys1 rfl _ rfl rfl ?_))
  go_region_with (first
   | (go_at_call 41; refine (clone_any k _ (by exact hs)).mono ?_; rintro e w5 ⟨rfl,hb5⟩; have hM5:=hM.drew.below hb5; have c5:=hM5.c2; obtain ⟨w6,hr6,hs6,hg6⟩:=SetAt.put (b:=w.heap.size + 1) (show SetAt w5 (w.heap.size + 1) p.keys from hM5.maps.2.1) hsk hlk HM.out))
  all_goals
   go_wp2
   go_ret
   obtain ⟨r1,r2⟩:=hM5.keyed rfl hg6 hs6
   exact ⟨rfl,⟨_,r1⟩,(TM2.trans (Tch.of_below (below_drew (Below.refl _ _)))).trans ((Tch.of_below hb5).trans r2)⟩
 | some b =>
  have hmc:=hF.drew.c2
  have hsk : k.size <= maxLen:=by simp only [maxLen]; omega
  have hlk : p.keys.length < maxLen:=by simp only [maxLen]; omega
  go_enter Tryz.func82,Tryz.ntmps82
  go_wp2_with (first
   | (at_lookup; refine wp_lookK hkeys rfl _ _ rfl k hs rfl rfl ?_; rw [HD.out])
   | (at_len; refine wp_lenK hkeys1 rfl _ rfl rfl ?_))
  go_region_with (first
   | (go_at_call 41; refine (clone_any k _ (by exact hs)).mono ?_; rintro e w5 ⟨rfl,hb5⟩; have hM5:=hF.drew.below hb5; have c5:=hM5.c2; obtain ⟨w6,hr6,hs6,hg6⟩:=SetAt.put (show SetAt w5 _ p.keys from hM5.maps.2.1) hsk hlk HM.out))
  all_goals
   go_wp2
   go_ret
   obtain ⟨r1,r2⟩:=hM5.keyed rfl hg6 hs6
   exact ⟨rfl,⟨_,r1⟩,(T.trans (Tch.of_below (below_drew (Below.refl _ _)))).trans ((Tch.of_below hb5).trans r2)⟩
theorem add_any (w : World) (base g rb cap : Nat) (q : PQ) (r : List PQ) (k : ByteArray) (h : CRep w base g rb cap (q :: r)) (hs : k.size <= 140737488355328) :
 Calls Tryz.prog 82 #[.pointer (some ⟨rb,r.length * 3,none⟩),.string k] w (APost w base g rb cap q r k.data.toList):=by
 by_cases hE : addE q.p.keys k.data.toList = 0
 ·exact add_kept w base g rb cap q r k h hs hE
 ·exact add_refused w base g rb cap q r k h hs hE
end Go.Proofs.YtbnppjmmlfncmaaGreatDoor
