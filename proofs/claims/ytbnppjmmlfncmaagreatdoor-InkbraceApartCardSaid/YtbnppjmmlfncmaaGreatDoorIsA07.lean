/-
  utf.Whole tells whether a text has characters.
  Whether a text has characters: now utf.Whole.
  quote's Print: appendPrinted adds what stands for a byte.
  quote's Print: appendPrinted at a byte that is written with its digits; the text of a text.
  quote's Print: the text of a text, or refused.
  carry, pure: a key as a word, the one-line form, elements within a node.
  inkbrace, pure: what is printed of a node.
  What a call turns, told by the kind of the objects: every block below a bound, and every block of another kind, lies as it lay.
-/
import Derived.Test.YtbnppjmmlfncmaaGreatDoorIsA06
import Derived.Test.YtbnppjmmlfncmaaGreatDoorIsA05
import Derived.Deep.RegionLaw
import Derived.IntWalk
import Derived.Test.YtbnppjmmlfncmaaGreatDoorIsA02
import Derived.Test.YtbnppjmmlfncmaaGreatDoorIsA01
set_option maxRecDepth 100000
namespace Go.Proofs.YtbnppjmmlfncmaaGreatDoor
open Go.RowKit Go.Maps
set_option maxHeartbeats 1000000 in
theorem whole_utf (s : ByteArray) (w : World) (hm : s.size <= 140737488355328) :
 Calls Tryz.prog 72 #[.string s] w fun e w' => e = .returned (.bool (runesL s.data.toList).isSome) /\ Below w.heap.size w w':=by
 go_enter Tryz.func72,Tryz.ntmps72
 go_wp2_with (first
  | (go_at_call 101; refine (new_any _).mono ?_; rintro e w' ⟨rfl,rfl⟩))
 go_loopw [8] (fun i wr => ∃ (k : Nat) (l lo hi : Int),k <= s.size /\ i = .int .i64 k /\ ScanAt wr w.heap.size l lo hi /\ 0 <= l /\ l <= 3 /\ Below w.heap.size w wr /\ Hid (UtfAt s.data.toList k l lo hi)) (fun i _ => s.size - (intOf i).toNat)
 case atStart => exact ⟨0,0,128,191,Nat.zero_le _,rfl,Blk.new w _ _,by decide,by decide,(Below.refl _ _).alloc (Nat.le_refl _) _,Lib.hid ⟨0,[],rfl⟩⟩
 case round =>
  obtain ⟨k,l,lo,hi,hk,rfl,hsc,h0,h3,hbel,HW⟩:=hrel
  by_cases hlt : k < s.size
  ·have hle:=byte_le s[k]
   have HD:=Lib.hid (drop_cons s k hlt)
   have hr:=stL_range (b:=s[k].toNat) h0 h3
   obtain ⟨hr0,hr3⟩:=hr
   go_wp2_with fail
   refine (step_any _ _ _ _ _ _ hsc h0 h3 (by omega) hle).mono ?_
   rintro e w1 ⟨rfl,hg1,hs1⟩
   have hbel1 : Below w.heap.size w w1:=below_only hbel hg1 hbel.size (Nat.le_refl _)
   clear hg1 hsc hbel
   generalize hO : stOk l lo hi s[k].toNat = O at *
   have HO:=Lib.hid hO
   clear hO
   cases O
   ·have HE:=Lib.hid (utf_bad HD.out HW.out HO.out)
    go_wp2
    go_ret
    rw [HE.out]
    exact ⟨rfl,hbel1⟩
   ·rw [if_pos rfl] at hs1
    go_wp2
    go_roundw
    case rel => exact ⟨k + 1,_,_,_,by omega,by go_num,hs1,hr0,hr3,hbel1,Lib.hid (utf_step HD.out HW.out HO.out)⟩
    case measure => simp [intOf]; omega
  ·have hend:=utf_end (by simp; omega) HW.out
   have HE:=Lib.hid hend
   clear hend
   go_wp2_with (first
    | (go_at_call 109; refine (whole_any _ _ _ _ _ hsc).mono ?_; rintro e w' ⟨rfl,rfl⟩))
   go_ret
   rw [HE.out]
   exact ⟨rfl,hbel⟩
end Go.Proofs.YtbnppjmmlfncmaaGreatDoor
namespace Go.Proofs.YtbnppjmmlfncmaaGreatDoor.Qt
open Go.RowKit Go.Maps
theorem isutf_any (s : ByteArray) (w : World) (hm : s.size <= 140737488355328) :
 Calls Tryz.prog 72 #[.string s] w fun e w' => e = .returned (.bool (runesL s.data.toList).isSome) /\ Below w.heap.size w w' :=
 whole_utf s w hm
section
variable {P : Program} {w : World}
theorem step_appS {ops : Array Oper} {o : Oper} {a : Act} {K : Act -> World -> Prop} {Q : Exit -> Act -> World -> Prop} {E : Prop} (hgd : o.guard = none) (s x : Operand) (t : TypeId)
 (ho : o.op = .call { callee:=.builtin .append,args:=#[s,x],argTypes:=#[t,t] })
 (base : Nat) (e : TypeId) (z : Value) (bytes : Nat) (ht : P.underlying t = some (.slice e)) (hinfo : (P.info? e).map (fun i => (i.zero,i.size,i.bytes)) = some (some z,1,bytes)) (hz1 : z.cells.size = 1)
 (v : Value) (xs news : List Value) (hs : a.eval s = v) (hown : ORow w base e v xs) (hu : ∀ u ∈ news,u.oneCell' = true)
 (A : Addr) (m c : Nat) (hm : news.length = m) (hx : a.eval x = .slice (some A) m c) (hc : ∀ j u,news[j]? = some u -> w.cell? (A.add j) = some u)
 (h63 : xs.length + m <= maxLen) (hbytes : (xs.length + m) * bytes <= 140737488355328) (hbase : base <= w.heap.size)
 (h : ∀ v' w',ORow w' base e v' (xs ++ news) -> Below base w w' -> K (a.put o.dst v') w') :
 if Region.wanted o (yielded ops a.tmps) = true then Oper.wp P o a w K Q else E:=by
 have hw : Region.wanted o (yielded ops a.tmps) = true:=by simp [Region.wanted,hgd]
 rw [if_pos hw]
 obtain ⟨i,hi,hz,hsize,hby⟩:=info_parts hinfo
 obtain ⟨v',w',hrun,h2,h3,_,h5⟩:=run_append_own_at (P:=P) w base t o.type e i z 1 bytes ht hi hz hsize hby hz1 (by decide) v xs.length xs hown
  A m c news (by simp [hm]) hc hu h63 hbytes hbase
 unfold Oper.wp execOp
 simp only [ho,resolve,invoke,builtin,Sem.run_bind,Sem.run_pure,Result.andThen_ok,List.map_toArray,List.map_cons,List.map_nil,hs,hx,hrun]
 refine h v' w' ?_ ?_
 ·unfold ORow
  rw [List.length_append,hm]
  exact h2
 ·refine ⟨h3.os,h3.tape,h3.output,h3.size,fun k hk => h3.block k (by omega) fun hcc => ?_⟩
  have:=World.ownsRow.lt hown k hcc.symm
  omega
end
theorem cells_new (w : World) (l : List Value) (t : TypeId) : ∀ j u,l[j]? = some u -> (w.alloc (.cells l.toArray t)).cell? ((⟨w.heap.size,0,none⟩ : Addr).add j) = some u:=by
 intro j u hj
 rw [addr_add0]
 exact (Blk.new w t l.toArray).cell j |>.trans (by simpa using hj)
def PrPost (w : World) (base : Nat) (xs : List UInt8) (b : UInt8) (e : Ending) (w' : World) : Prop:=∃ v,e = .returned v /\ ORow w' base 5 v ((xs ++ prB b).map bV) /\ Below base w w'
theorem prPost_of {w w' : World} {base : Nat} {v : Value} {xs : List UInt8} {b : UInt8} {news : List Value} (h : (prB b).map bV = news) (ho : ORow w' base 5 v (xs.map bV ++ news)) (hb : Below base w w') : PrPost w base xs b (.returned v) w' :=
 ⟨v,rfl,by rw [List.map_append,h]; exact ho,hb⟩
set_option maxHeartbeats 1000000 in
theorem pr_34 (w : World) (base : Nat) (A : Option Addr) (cap : Nat) (xs : List UInt8) (b : UInt8) (ho : ORow w base 5 (.slice A xs.length cap) (xs.map bV)) (hl : xs.length <= 1000) (hbase : base <= w.heap.size)
 (HP : Hid ((prB b).map bV = [.int .u8 92,.int .u8 34])) :
 Calls Tryz.prog 73 #[.slice A xs.length cap,.int .u8 34] w (PrPost w base xs b):=by
 go_enter Tryz.func73,Tryz.ntmps73
 go_wp2_with (first
  | (at_builtin; refine wp_appS rfl _ _ 39 rfl base 5 (.int .u8 0) 1 Tryz.underlying39 Tryz.info5 rfl _ _ [.int .u8 92,.int .u8 34] rfl (by exact ho.alloc _) (by simp [Value.oneCell']) ⟨w.heap.size,0,none⟩ 2 2 rfl rfl (cells_new w [.int .u8 92,.int .u8 34] 5) (by simp [maxLen]; omega) (by simp; omega) (by simp; omega) ?_; intro v1 w1 hown1 hb1))
 go_ret
 exact prPost_of HP.out hown1 (((Below.refl base w).alloc hbase _).trans hb1)
set_option maxHeartbeats 1000000 in
theorem pr_92 (w : World) (base : Nat) (A : Option Addr) (cap : Nat) (xs : List UInt8) (b : UInt8) (ho : ORow w base 5 (.slice A xs.length cap) (xs.map bV)) (hl : xs.length <= 1000) (hbase : base <= w.heap.size)
 (HP : Hid ((prB b).map bV = [.int .u8 92,.int .u8 92])) :
 Calls Tryz.prog 73 #[.slice A xs.length cap,.int .u8 92] w (PrPost w base xs b):=by
 go_enter Tryz.func73,Tryz.ntmps73
 go_wp2_with (first
  | (at_builtin; refine wp_appS rfl _ _ 39 rfl base 5 (.int .u8 0) 1 Tryz.underlying39 Tryz.info5 rfl _ _ [.int .u8 92,.int .u8 92] rfl (by exact ho.alloc _) (by simp [Value.oneCell']) ⟨w.heap.size,0,none⟩ 2 2 rfl rfl (cells_new w [.int .u8 92,.int .u8 92] 5) (by simp [maxLen]; omega) (by simp; omega) (by simp; omega) ?_; intro v1 w1 hown1 hb1))
 go_ret
 exact prPost_of HP.out hown1 (((Below.refl base w).alloc hbase _).trans hb1)
set_option maxHeartbeats 1000000 in
theorem pr_10 (w : World) (base : Nat) (A : Option Addr) (cap : Nat) (xs : List UInt8) (b : UInt8) (ho : ORow w base 5 (.slice A xs.length cap) (xs.map bV)) (hl : xs.length <= 1000) (hbase : base <= w.heap.size)
 (HP : Hid ((prB b).map bV = [.int .u8 92,.int .u8 110])) :
 Calls Tryz.prog 73 #[.slice A xs.length cap,.int .u8 10] w (PrPost w base xs b):=by
 go_enter Tryz.func73,Tryz.ntmps73
 go_wp2_with (first
  | (at_builtin; refine wp_appS rfl _ _ 39 rfl base 5 (.int .u8 0) 1 Tryz.underlying39 Tryz.info5 rfl _ _ [.int .u8 92,.int .u8 110] rfl (by exact ho.alloc _) (by simp [Value.oneCell']) ⟨w.heap.size,0,none⟩ 2 2 rfl rfl (cells_new w [.int .u8 92,.int .u8 110] 5) (by simp [maxLen]; omega) (by simp; omega) (by simp; omega) ?_; intro v1 w1 hown1 hb1))
 go_ret
 exact prPost_of HP.out hown1 (((Below.refl base w).alloc hbase _).trans hb1)
set_option maxHeartbeats 1000000 in
theorem pr_9 (w : World) (base : Nat) (A : Option Addr) (cap : Nat) (xs : List UInt8) (b : UInt8) (ho : ORow w base 5 (.slice A xs.length cap) (xs.map bV)) (hl : xs.length <= 1000) (hbase : base <= w.heap.size)
 (HP : Hid ((prB b).map bV = [.int .u8 92,.int .u8 116])) :
 Calls Tryz.prog 73 #[.slice A xs.length cap,.int .u8 9] w (PrPost w base xs b):=by
 go_enter Tryz.func73,Tryz.ntmps73
 go_wp2_with (first
  | (at_builtin; refine wp_appS rfl _ _ 39 rfl base 5 (.int .u8 0) 1 Tryz.underlying39 Tryz.info5 rfl _ _ [.int .u8 92,.int .u8 116] rfl (by exact ho.alloc _) (by simp [Value.oneCell']) ⟨w.heap.size,0,none⟩ 2 2 rfl rfl (cells_new w [.int .u8 92,.int .u8 116] 5) (by simp [maxLen]; omega) (by simp; omega) (by simp; omega) ?_; intro v1 w1 hown1 hb1))
 go_ret
 exact prPost_of HP.out hown1 (((Below.refl base w).alloc hbase _).trans hb1)
set_option maxHeartbeats 1000000 in
theorem pr_13 (w : World) (base : Nat) (A : Option Addr) (cap : Nat) (xs : List UInt8) (b : UInt8) (ho : ORow w base 5 (.slice A xs.length cap) (xs.map bV)) (hl : xs.length <= 1000) (hbase : base <= w.heap.size)
 (HP : Hid ((prB b).map bV = [.int .u8 92,.int .u8 114])) :
 Calls Tryz.prog 73 #[.slice A xs.length cap,.int .u8 13] w (PrPost w base xs b):=by
 go_enter Tryz.func73,Tryz.ntmps73
 go_wp2_with (first
  | (at_builtin; refine wp_appS rfl _ _ 39 rfl base 5 (.int .u8 0) 1 Tryz.underlying39 Tryz.info5 rfl _ _ [.int .u8 92,.int .u8 114] rfl (by exact ho.alloc _) (by simp [Value.oneCell']) ⟨w.heap.size,0,none⟩ 2 2 rfl rfl (cells_new w [.int .u8 92,.int .u8 114] 5) (by simp [maxLen]; omega) (by simp; omega) (by simp; omega) ?_; intro v1 w1 hown1 hb1))
 go_ret
 exact prPost_of HP.out hown1 (((Below.refl base w).alloc hbase _).trans hb1)
set_option maxHeartbeats 1000000 in
theorem pr_char (w : World) (base : Nat) (A : Option Addr) (cap : Nat) (xs : List UInt8) (b : UInt8) (bi : Int) (ho : ORow w base 5 (.slice A xs.length cap) (xs.map bV)) (hl : xs.length <= 1000) (hbase : base <= w.heap.size)
 (HP : Hid ((prB b).map bV = [.int .u8 bi])) (h0 : 32 <= bi) (h1 : bi <= 255) (h2 : (bi == 34) = false) (h3 : (bi == 92) = false) :
 Calls Tryz.prog 73 #[.slice A xs.length cap,.int .u8 bi] w (PrPost w base xs b):=by
 go_enter Tryz.func73,Tryz.ntmps73
 go_wp2_with (first
  | (at_builtin; refine wp_appS rfl _ _ 39 rfl base 5 (.int .u8 0) 1 Tryz.underlying39 Tryz.info5 rfl _ _ [.int .u8 bi] rfl (by exact ho.alloc _) (by simp [Value.oneCell']) ⟨w.heap.size,0,none⟩ 1 1 rfl rfl (cells_new w [.int .u8 bi] 5) (by simp [maxLen]; omega) (by simp; omega) (by simp; omega) ?_; intro v1 w1 hown1 hb1))
 go_ret
 exact prPost_of HP.out hown1 (((Below.refl base w).alloc hbase _).trans hb1)
theorem hexAt_all : ∀ m : Fin 16,(((⟨#[48,49,50,51,52,53,54,55,56,57,97,98,99,100,101,102]⟩ : ByteArray)[m.val]'(by have:=m.isLt; exact this)).toNat : Int) = hexD (m.val : Int):=by decide
theorem hexAt (n : Int) (h0 : 0 <= n) (h1 : n < 16) (h : n.toNat < (⟨#[48,49,50,51,52,53,54,55,56,57,97,98,99,100,101,102]⟩ : ByteArray).size) :
 (((⟨#[48,49,50,51,52,53,54,55,56,57,97,98,99,100,101,102]⟩ : ByteArray)[n.toNat]'h).toNat : Int) = hexD n:=by
 have:=hexAt_all ⟨n.toNat,h⟩
 simp only at this
 rw [this]
 congr 1
 omega
section
variable {P : Program} {w : World}
theorem step_appN {ops : Array Oper} {o : Oper} {a : Act} {K : Act -> World -> Prop} {Q : Exit -> Act -> World -> Prop} {E : Prop} (hgd : o.guard = none) (s x : Operand) (t : TypeId)
 (ho : o.op = .call { callee:=.builtin .append,args:=#[s,x],argTypes:=#[t,t] })
 (base : Nat) (e : TypeId) (z : Value) (bytes : Nat) (ht : P.underlying t = some (.slice e)) (hinfo : (P.info? e).map (fun i => (i.zero,i.size,i.bytes)) = some (some z,1,bytes)) (hz1 : z.cells.size = 1)
 (v : Value) (xs : List Value) (C : Array Value) (m : Nat) (hs : a.eval s = v) (hown : ORow w base e v xs) (hu : ∀ u ∈ C.toList,u.oneCell' = true) (hm : C.size = m)
 (c : Nat) (hx : a.eval x = .slice (some ⟨w.heap.size,0,none⟩) m c)
 (h63 : xs.length + m <= maxLen) (hbytes : (xs.length + m) * bytes <= 140737488355328) (hbase : base <= w.heap.size)
 (h : ∀ v' w',ORow w' base e v' (xs ++ C.toList) -> Below base w w' -> K (a.put o.dst v') w') :
 if Region.wanted o (yielded ops a.tmps) = true then Oper.wp P o a ((w.alloc (.cells C e)).drew) K Q else E:=by
 refine step_appS hgd s x t ho base e z bytes ht hinfo hz1 v xs C.toList hs (hown.alloc _).drew hu ⟨w.heap.size,0,none⟩ m c hm hx (cells_new w C.toList e) h63 hbytes (by simp; omega) fun v' w' h1 h2 => h v' w' h1 ?_
 exact (below_drew ((Below.refl base w).alloc hbase _)).trans h2
end
set_option maxHeartbeats 1000000 in
theorem pr_ctl (w : World) (base : Nat) (A : Option Addr) (cap : Nat) (xs : List UInt8) (b : UInt8) (bi : Int) (ho : ORow w base 5 (.slice A xs.length cap) (xs.map bV)) (hl : xs.length <= 1000) (hbase : base <= w.heap.size)
 (HP : Hid ((prB b).map bV = [.int .u8 92,.int .u8 117,.int .u8 48,.int .u8 48,.int .u8 (hexD (bi / 16)),.int .u8 (hexD (bi % 16))])) (h0 : 0 <= bi) (h1 : bi < 32) (h2 : (bi == 10) = false) (h3 : (bi == 9) = false) (h4 : (bi == 13) = false) :
 Calls Tryz.prog 73 #[.slice A xs.length cap,.int .u8 bi] w (PrPost w base xs b):=by
 have e34 : (bi == 34) = false:=beq_eq_false_iff_ne.2 (by omega)
 have e92 : (bi == 92) = false:=beq_eq_false_iff_ne.2 (by omega)
 have e4:=u8_and15 bi h0 (show bi < 256 by omega)
 go_enter Tryz.func73,Tryz.ntmps73
 have q0 : 0 <= bi / 16:=by omega
 have q1 : bi / 16 < 16:=by omega
 have q2 : 0 <= bi % 16:=by omega
 have q3 : bi % 16 < 16:=by omega
 go_wp2_with fail
 go_region_law ((refine step_appN (by rfl) (.tmp 30) (.tmp 37) 39 (by rfl) base 5 (.int .u8 0) 1 Tryz.underlying39 Tryz.info5 (by rfl) _ _ _ 6 (by rfl) (by exact ho) (by simp [Value.oneCell']) (by rfl) _ (by rfl) (by simp [maxLen]; omega) (by simp; omega) (by omega) ?_; intro v1 w1 hown1 hb1))
 all_goals
  go_wp2
  go_ret
  rw [hexAt _ q0 q1,hexAt _ q2 q3] at hown1
  exact prPost_of HP.out hown1 hb1
theorem pr_any (w : World) (base : Nat) (v : Value) (xs : List UInt8) (b : UInt8) (ho : ORow w base 5 v (xs.map bV)) (hl : xs.length <= 1000) (hbase : base <= w.heap.size) :
 Calls Tryz.prog 73 #[v,.int .u8 (b.toNat : Int)] w (PrPost w base xs b):=by
 have hb:=byte_le b
 obtain ⟨A,cap,hv⟩:=ho.shape
 subst hv
 rw [List.length_map] at ho ⊢
 obtain ⟨bi,hbi⟩ : ∃ bi : Int,bi = (b.toNat : Int):=⟨_,rfl⟩
 have h0 : 0 <= bi:=by omega
 have h255 : bi <= 255:=by omega
 by_cases c34 : bi = 34
 ·have hp : (prB b).map bV = [.int .u8 92,.int .u8 34]:=by
   unfold prB; rw [if_pos (by omega)]
   simp only [List.map_cons,List.map_nil,bV]
   rw [<- hbi,c34]; rfl
  rw [<- hbi,c34]
  exact pr_34 w base A cap xs b ho hl hbase (Lib.hid hp)
 by_cases c92 : bi = 92
 ·have hp : (prB b).map bV = [.int .u8 92,.int .u8 92]:=by
   unfold prB; rw [if_pos (by omega)]
   simp only [List.map_cons,List.map_nil,bV]
   rw [<- hbi,c92]; rfl
  rw [<- hbi,c92]
  exact pr_92 w base A cap xs b ho hl hbase (Lib.hid hp)
 by_cases c10 : bi = 10
 ·have hp : (prB b).map bV = [.int .u8 92,.int .u8 110]:=by
   unfold prB; rw [if_neg (by omega),if_pos (by omega)]; rfl
  rw [<- hbi,c10]
  exact pr_10 w base A cap xs b ho hl hbase (Lib.hid hp)
 by_cases c9 : bi = 9
 ·have hp : (prB b).map bV = [.int .u8 92,.int .u8 116]:=by
   unfold prB; rw [if_neg (by omega),if_neg (by omega),if_pos (by omega)]; rfl
  rw [<- hbi,c9]
  exact pr_9 w base A cap xs b ho hl hbase (Lib.hid hp)
 by_cases c13 : bi = 13
 ·have hp : (prB b).map bV = [.int .u8 92,.int .u8 114]:=by
   unfold prB; rw [if_neg (by omega),if_neg (by omega),if_neg (by omega),if_pos (by omega)]; rfl
  rw [<- hbi,c13]
  exact pr_13 w base A cap xs b ho hl hbase (Lib.hid hp)
 by_cases c32 : bi < 32
 ·have q0 : 0 <= bi / 16 /\ bi / 16 < 16:=by omega
  have q1 : 0 <= bi % 16 /\ bi % 16 < 16:=by omega
  have r0:=hexD_rg _ q0.1 q0.2
  have r1:=hexD_rg _ q1.1 q1.2
  have hp : (prB b).map bV = [.int .u8 92,.int .u8 117,.int .u8 48,.int .u8 48,.int .u8 (hexD (bi / 16)),.int .u8 (hexD (bi % 16))]:=by
   unfold prB; rw [if_neg (by omega),if_neg (by omega),if_neg (by omega),if_neg (by omega),if_pos (by omega)]
   rw [<- hbi]
   simp only [List.map_cons,List.map_nil]
   rw [bV_b8 _ r0.1 r0.2,bV_b8 _ r1.1 r1.2]
   rfl
  rw [<- hbi]
  exact pr_ctl w base A cap xs b bi ho hl hbase (Lib.hid hp) h0 c32 (beq_eq_false_iff_ne.2 c10) (beq_eq_false_iff_ne.2 c9) (beq_eq_false_iff_ne.2 c13)
 ·have hp : (prB b).map bV = [.int .u8 bi]:=by
   unfold prB; rw [if_neg (by omega),if_neg (by omega),if_neg (by omega),if_neg (by omega),if_neg (by omega)]
   simp only [List.map_cons,List.map_nil,bV]
   rw [<- hbi]
  rw [<- hbi]
  exact pr_char w base A cap xs b bi ho hl hbase (Lib.hid hp) (by omega) h255 (beq_eq_false_iff_ne.2 c34) (beq_eq_false_iff_ne.2 c92)
def prText (L : List UInt8) : List UInt8:=if (runesL L).isSome = true then (if 48 < L.length then [] else printL L) else []
def prErr (L : List UInt8) : Int:=if (runesL L).isSome = true then (if 48 < L.length then 4 else 0) else 3
def PrintEnd (L : List UInt8) : Ending:=.returned (.tuple #[.string ⟨(prText L).toArray⟩,.int .i64 (prErr L)])
set_option maxHeartbeats 1000000 in
theorem print_any (s : ByteArray) (w : World) (hm : s.size <= 140737488355328) :
 Calls Tryz.prog 42 #[.string s] w fun e w' => e = PrintEnd s.data.toList /\ Below w.heap.size w w':=by
 have hsz : s.data.toList.length = s.size:=by simp
 by_cases hu : (runesL s.data.toList).isSome = true
 ·by_cases ho : 48 < s.size
  ·have hE : PrintEnd s.data.toList = .returned (.tuple #[.string ⟨#[]⟩,.int .i64 4]):=by
    unfold PrintEnd prText prErr; rw [if_pos hu,if_pos hu,if_pos (by omega),if_pos (by omega)]
   rw [hE]
   have HU:=Lib.hid hu
   clear hE hu
   go_enter Tryz.func42,Tryz.ntmps42
   go_wp2_with (first
    | (go_at_call 72; refine (isutf_any s _ hm).mono ?_; rintro e w1 ⟨rfl,hb1⟩; rw [HU.out]))
   go_ret2
   exact ⟨rfl,hb1⟩
  ·have hE : PrintEnd s.data.toList = .returned (.tuple #[.string ⟨(34 :: (prAll s.data.toList ++ [34])).toArray⟩,.int .i64 0]):=by
    unfold PrintEnd prText prErr; rw [if_pos hu,if_pos hu,if_neg (by omega),if_neg (by omega)]; rfl
   rw [hE]
   have HU:=Lib.hid hu
   clear hE hu
   go_enter Tryz.func42,Tryz.ntmps42
   go_wp2_with (first
    | (go_at_call 72; refine (isutf_any s _ hm).mono ?_; rintro e w1 ⟨rfl,hb1⟩; rw [HU.out]))
   have hs1:=hb1.size
   go_loopw [4,15] (fun v i wr => ∃ (k : Nat),k <= s.size /\ i = .int .i64 k /\ ORow wr w.heap.size 5 v ((34 :: prAll (s.data.toList.take k)).map bV) /\ Below w.heap.size w wr) (fun _ i _ => s.size - (intOf i).toNat)
   case atStart => exact ⟨0,Nat.zero_le _,rfl,by have:=ORow.lit w1 w.heap.size 5 #[.int .u8 34] hs1 (by simp [maxLen]); exact this,hb1.alloc hs1 _⟩
   case round =>
    obtain ⟨k,hk,rfl,hown,hbel⟩:=hrel
    have hbs:=hbel.size
    have hlen:=(prAll_len (s.data.toList.take k)).2
    have htl : (s.data.toList.take k).length <= k:=List.length_take_le _ _
    by_cases hlt : k < s.size
    ·have hle:=byte_le s[k]
     have HT:=Lib.hid (take_snoc s k hlt)
     go_wp2_with fail
     refine (pr_any _ _ _ (34 :: prAll (s.data.toList.take k)) s[k] hown (by simp; omega) hbs).mono ?_
     rintro e w2 ⟨v2,rfl,hown2,hb2⟩
     go_wp2
     go_roundw
     case rel => exact ⟨k + 1,by omega,by go_num,by rw [HT.out,prAll_snoc]; exact hown2,hbel.trans hb2⟩
     case measure => simp [intOf]; omega
    ·have hkn : k = s.size:=by omega
     subst hkn
     have htk : s.data.toList.take s.size = s.data.toList:=List.take_of_length_le (by omega)
     rw [htk] at hown hlen
     obtain ⟨A,cap,hv⟩:=hown.shape
     subst hv
     rw [List.length_map] at hown
     rw [List.length_map]
     have hx : (34 :: prAll s.data.toList).length <= 1000:=by simp; omega
     go_wp2_with (first
      | (at_builtin; refine wp_appS rfl _ _ 39 rfl w.heap.size 5 (.int .u8 0) 1 Tryz.underlying39 Tryz.info5 rfl _ _ [.int .u8 34] rfl (by exact hown.alloc _) (by simp [Value.oneCell']) ⟨wr.heap.size,0,none⟩ 1 1 rfl rfl (cells_new wr [.int .u8 34] 5) (by simp [maxLen] at hx ⊢; omega) (by simp at hx ⊢; omega) (by simp; omega) ?_; intro v2 w2 hown2 hb2))
     have hstr:=put_str (34 :: (prAll s.data.toList ++ [34])) (by simpa [bV] using hown2)
     first | rw [hstr] | skip
     go_wp2
     go_ret2
     exact ⟨rfl,(hbel.alloc hbs _).trans hb2⟩
 ·have hE : PrintEnd s.data.toList = .returned (.tuple #[.string ⟨#[]⟩,.int .i64 3]):=by
   unfold PrintEnd prText prErr; rw [if_neg hu,if_neg hu]
  have huf : (runesL s.data.toList).isSome = false:=by simpa using hu
  rw [hE]
  have HU:=Lib.hid huf
  clear hE hu huf
  go_enter Tryz.func42,Tryz.ntmps42
  go_wp2_with (first
   | (go_at_call 72; refine (isutf_any s _ hm).mono ?_; rintro e w1 ⟨rfl,hb1⟩; rw [HU.out]))
  go_ret2
  exact ⟨rfl,hb1⟩
end Go.Proofs.YtbnppjmmlfncmaaGreatDoor.Qt
namespace Go.Proofs.YtbnppjmmlfncmaaGreatDoor
def dNd : Nd:=.mk 0 ⟨#[]⟩ ⟨#[]⟩ []
theorem getDn {l : List Nd} {j : Nat} (h : j < l.length) : l.getD j dNd = l[j]:=by simp [List.getD_eq_getElem?_getD,List.getElem?_eq_getElem h]
def wordL (L : List UInt8) : List UInt8:=if localL L = true /\ (46 : UInt8) ∉ L then L else Qt.prText L
mutual
def rowN : Nd -> List UInt8
 | .mk k t _ kids => if k = 1 then [110,117,108,108] else if k = 4 then Qt.prText t.data.toList else if k = 5 then 91 :: (seqN true kids ++ [93]) else if k = 7 then 123 :: (seqN true kids ++ [125])
  else if k = 8 then wordL t.data.toList ++ ([32,61,32] ++ seqN true kids) else t.data.toList
def seqN : Bool -> List Nd -> List UInt8
 | _,[] => []
 | b,n :: r => (if b = true then [] else [44,32]) ++ (rowN n ++ seqN false r)
end
theorem seqN_snoc : ∀ (l : List Nd) (b : Bool) (m : Nd),seqN b (l ++ [m]) = seqN b l ++ ((if b = true /\ l = [] then [] else [44,32]) ++ rowN m)
 | [],b,m => by cases b <;> simp [seqN]
 | n :: r,b,m => by
  simp only [List.cons_append,seqN,seqN_snoc r false m]
  simp [List.append_assoc]
theorem shapedL_mem : ∀ {l : List Nd},shapedL l = true ↔ ∀ n ∈ l,shaped n = true
 | [] => by simp [shapedL]
 | n :: r => by simp only [shapedL,Bool.and_eq_true,shapedL_mem (l:=r),List.mem_cons,forall_eq_or_imp]
mutual
def elemN : Nd -> Bool
 | .mk k _ _ kids => decide (k = 10) || elemL kids
def elemL : List Nd -> Bool
 | [] => false
 | n :: r => elemN n || elemL r
end
theorem prText_len (L : List UInt8) : (Qt.prText L).length <= 290:=by
 unfold Qt.prText
 split
 ·split
  ·simp
  ·have h1:=Qt.printL_len L
   have h2:=(Qt.prAll_len L).2
   omega
 ·simp
theorem wordL_len (L : List UInt8) : (wordL L).length <= L.length + 290:=by
 unfold wordL
 split
 ·omega
 ·have:=prText_len L; omega
mutual
theorem rowN_len : ∀ n : Nd,smallT n -> (rowN n).length + 2 <= sizeN n * 1048900
 | .mk k t v kids,h => by
  obtain ⟨h1,_,h3⟩:=h
  have hl:=seqN_len kids h3 true
  have h5 : t.data.toList.length = t.size:=by simp
  have hp:=prText_len t.data.toList
  have hw:=wordL_len t.data.toList
  simp only [rowN,sizeN]
  repeat' split
  all_goals ((try simp only [List.length_cons,List.length_append,List.length_nil]); omega)
theorem seqN_len : ∀ l : List Nd,smallL l -> ∀ b,(seqN b l).length <= sizeL l * 1048900
 | [],_,b => by simp [seqN]
 | n :: r,h,b => by
  have h1:=rowN_len n h.1
  have h2:=seqN_len r h.2 false
  simp only [seqN,sizeL,List.length_append]
  have h3 : (if b = true then ([] : List UInt8) else [44,32]).length <= 2:=by split <;> simp
  omega
end
mutual
def inkN : Nd -> List UInt8
 | .mk k t _ kids => if k = 1 then [110,117,108,108] else if k = 4 then Qt.prText t.data.toList else if k = 5 then 91 :: (inkL true kids ++ [93]) else if k = 7 then 123 :: (inkL true kids ++ [125])
  else if k = 8 then Qt.prText t.data.toList ++ ([58] ++ inkL true kids) else t.data.toList
def inkL : Bool -> List Nd -> List UInt8
 | _,[] => []
 | b,n :: r => (if b = true then [] else [44]) ++ (inkN n ++ inkL false r)
end
theorem inkL_snoc : ∀ (l : List Nd) (b : Bool) (m : Nd),inkL b (l ++ [m]) = inkL b l ++ ((if b = true /\ l = [] then [] else [44]) ++ inkN m)
 | [],b,m => by cases b <;> simp [inkL]
 | n :: r,b,m => by
  simp only [List.cons_append,inkL,inkL_snoc r false m]
  simp [List.append_assoc]
mutual
theorem inkN_len : ∀ n : Nd,smallT n -> (inkN n).length + 2 <= sizeN n * 1048900
 | .mk k t v kids,h => by
  obtain ⟨h1,_,h3⟩:=h
  have hl:=inkL_len kids h3 true
  have h5 : t.data.toList.length = t.size:=by simp
  have hp:=prText_len t.data.toList
  simp only [inkN,sizeN]
  repeat' split
  all_goals ((try simp only [List.length_cons,List.length_append,List.length_nil]); omega)
theorem inkL_len : ∀ l : List Nd,smallL l -> ∀ b,(inkL b l).length <= sizeL l * 1048900
 | [],_,b => by simp [inkL]
 | n :: r,h,b => by
  have h1:=inkN_len n h.1
  have h2:=inkL_len r h.2 false
  simp only [inkL,sizeL,List.length_append]
  have h3 : (if b = true then ([] : List UInt8) else [44]).length <= 1:=by split <;> simp
  omega
end
theorem inkN_1 (t v : ByteArray) (l : List Nd) : inkN (.mk 1 t v l) = [110,117,108,108]:=by simp only [inkN]; rw [if_pos trivial]
theorem inkN_4 (t v : ByteArray) (l : List Nd) : inkN (.mk 4 t v l) = Qt.prText t.data.toList:=by simp only [inkN]; rw [if_neg (by decide),if_pos trivial]
theorem inkN_5 (t v : ByteArray) (l : List Nd) : inkN (.mk 5 t v l) = 91 :: (inkL true l ++ [93]):=by simp only [inkN]; rw [if_neg (by decide),if_neg (by decide),if_pos trivial]
theorem inkN_7 (t v : ByteArray) (l : List Nd) : inkN (.mk 7 t v l) = 123 :: (inkL true l ++ [125]):=by simp only [inkN]; rw [if_neg (by decide),if_neg (by decide),if_neg (by decide),if_pos trivial]
theorem inkN_8 (t v : ByteArray) (l : List Nd) : inkN (.mk 8 t v l) = Qt.prText t.data.toList ++ ([58] ++ inkL true l):=by simp only [inkN]; rw [if_neg (by decide),if_neg (by decide),if_neg (by decide),if_neg (by decide),if_pos trivial]
theorem inkN_e {k : Int} (t v : ByteArray) (l : List Nd) (h1 : k ≠ 1) (h4 : k ≠ 4) (h5 : k ≠ 5) (h7 : k ≠ 7) (h8 : k ≠ 8) : inkN (.mk k t v l) = t.data.toList:=by simp only [inkN]; rw [if_neg h1,if_neg h4,if_neg h5,if_neg h7,if_neg h8]
theorem ink_at (l : List Nd) (b : Bool) (j : Nat) (h : j < l.length) : inkL b (l.take (j + 1)) = inkL b (l.take j) ++ ((if b = true /\ j = 0 then [] else [44]) ++ inkN (l.getD j dNd)):=by
 rw [List.take_succ_eq_append_getElem h,inkL_snoc,getDn h]
 congr 2
 have : l.take j = [] ↔ j = 0:=by
  rw [List.take_eq_nil_iff]
  constructor
  ·rintro (h1 | h1)
   ·exact h1
   ·subst h1; simp at h
  ·exact .inl
 simp only [this]
open Go.RowKit
structure Tch (base : Nat) (p : Obj -> Prop) (w w' : World) : Prop where
 os : w'.os = w.os
 tape : w'.tape = w.tape
 output : w'.output = w.output
 size : w.heap.size <= w'.heap.size
 block : ∀ k o,w.heap[k]? = some o -> (k < base \/ ¬ p o) -> w'.heap[k]? = some o
section
variable {base : Nat} {p : Obj -> Prop} {w w' w'' : World}
theorem heap_some {k : Nat} (h : k < w.heap.size) : ∃ b,w.heap[k]? = some b:=⟨w.heap[k],Array.getElem?_eq_getElem h⟩
theorem Tch.refl (base : Nat) (p : Obj -> Prop) (w : World) : Tch base p w w:=⟨rfl,rfl,rfl,Nat.le_refl _,fun _ _ h _ => h⟩
theorem Tch.trans (h : Tch base p w w') (k : Tch base p w' w'') : Tch base p w w'' :=
 ⟨k.os.trans h.os,k.tape.trans h.tape,k.output.trans h.output,Nat.le_trans h.size k.size,fun i o ho hc => k.block i o (h.block i o ho hc) hc⟩
theorem Tch.below (h : Tch base p w w') (hb : base <= w.heap.size) : Below base w w' :=
 ⟨h.os,h.tape,h.output,h.size,fun k hk => by
  obtain ⟨o,ho⟩:=heap_some (w:=w) (Nat.lt_of_lt_of_le hk hb)
  rw [h.block k o ho (.inl hk),ho]⟩
theorem Tch.of_below (h : Below w.heap.size w w') : Tch base p w w' :=
 ⟨h.os,h.tape,h.output,h.size,fun k _ ho _ => (h.block k (Array.getElem?_eq_some_iff.1 ho).1).trans ho⟩
theorem Tch.of_grown {g : Nat} {o : Obj} (h : w.grownBy w' (some g)) (hg : base <= g) (ho : w.heap[g]? = some o) (hp : p o) : Tch base p w w' :=
 ⟨h.os,h.tape,h.output,h.size,fun k o' ho' hc => by
  refine (h.block k (Array.getElem?_eq_some_iff.1 ho').1 ?_).trans ho'
  intro e
  injection e with e
  subst e
  rw [ho] at ho'
  injection ho' with ho'
  subst ho'
  rcases hc with hc | hc
  ·omega
  ·exact hc hp⟩
theorem Tch.of_grown_none (h : w.grownBy w' none) : Tch base p w w' :=
 ⟨h.os,h.tape,h.output,h.size,fun k o' ho' _ => (h.block k (Array.getElem?_eq_some_iff.1 ho').1 (by simp)).trans ho'⟩
theorem Tch.alloc (h : Tch base p w w') (o : Obj) : Tch base p w (w'.alloc o):=h.trans (Tch.of_below ((Below.refl _ _).alloc (Nat.le_refl _) _))
theorem Tch.drewN (h : Tch base p w w') (n : Nat) : Tch base p w (w'.drewN n):=⟨h.os,h.tape,h.output,h.size,h.block⟩
theorem Tch.drew (h : Tch base p w w') : Tch base p w w'.drew:=⟨h.os,h.tape,h.output,h.size,h.block⟩
theorem Tch.set (h : Tch base p w w') {g : Nat} {t : TypeId} {cs : Array Value} (hk : Blk w' g t cs) (hg : base <= g) (hp : p (.cells cs t (0,0))) (i : Nat) (u : Value) : Tch base p w (w'.setCell ⟨g,i,none⟩ u) :=
 h.trans (Tch.of_grown (only_setCell (World.grownBy.refl w' (some g)) (.inl rfl) u) hg hk hp)
theorem Blk.tch {g : Nat} {t : TypeId} {cs : Array Value} (h : Blk w g t cs) (ht : Tch base p w w') (hp : g < base \/ ¬ p (.cells cs t (0,0))) : Blk w' g t cs:=ht.block _ _ h hp
theorem row_obj {e : TypeId} {size n : Nat} {v : Value} {xs : List Value} (h : w.ownsRow base e size v n xs) {g : Nat} (hg : v.ownBlock = some g) : ∃ cur,w.heap[g]? = some (.cells cur e (0,0)):=by
 rcases h.2 with ⟨rfl,_⟩ | ⟨g',cap,cur,rfl,_,hh,_⟩
 ·cases hg
 ·cases hg
  exact ⟨cur,hh⟩
theorem row_tch {b : Nat} {e : TypeId} {size n : Nat} {v : Value} {xs : List Value} (h : w.ownsRow b e size v n xs) (ht : Tch base p w w') (hp : ∀ cur fr,¬ p (.cells cur e fr)) : w'.ownsRow b e size v n xs:=by
 refine ⟨h.1,?_⟩
 rcases h.2 with hn | ⟨g,cap,cur,hv,hg,hh,r⟩
 ·exact .inl hn
 ·exact .inr ⟨g,cap,cur,hv,hg,ht.block _ _ hh (.inr (hp _ _)),r⟩
theorem Tch.of_row {b : Nat} {e : TypeId} {size n : Nat} {v : Value} {xs : List Value} (hr : w.ownsRow b e size v n xs) (h : w.grownBy w' v.ownBlock) (hb : base <= b) (hp : ∀ cur,p (.cells cur e (0,0))) : Tch base p w w':=by
 cases hv : v.ownBlock with
 | none => rw [hv] at h; exact Tch.of_grown_none h
 | some g =>
  obtain ⟨cur,hh⟩:=row_obj hr hv
  rw [hv] at h
  exact Tch.of_grown h (Nat.le_trans hb (World.ownsRow.lt hr g hv).1) hh (hp _)
end
section
variable {P : Program} {w : World}
theorem step_appG {ops : Array Oper} {o : Oper} {a : Act} {K : Act -> World -> Prop} {Q : Exit -> Act -> World -> Prop} {E : Prop} (hgd : o.guard = none) (s x : Operand) (t : TypeId)
 (ho : o.op = .call { callee:=.builtin .append,args:=#[s,x],argTypes:=#[t,t] })
 (base : Nat) (e : TypeId) (z : Value) (size bytes : Nat) (ht : P.underlying t = some (.slice e)) (hinfo : (P.info? e).map (fun i => (i.zero,i.size,i.bytes)) = some (some z,size,bytes)) (hz1 : z.cells.size = size) (hs0 : 0 < size)
 (v : Value) (n : Nat) (xs news : List Value) (hs : a.eval s = v) (hown : w.ownsRow base e size v n xs) (hu : ∀ u ∈ news,u.oneCell' = true)
 (A : Addr) (m c : Nat) (hm : news.length = m * size) (hx : a.eval x = .slice (some A) m c) (hc : ∀ j u,news[j]? = some u -> w.cell? (A.add j) = some u)
 (h63 : n + m <= maxLen) (hbytes : (n + m) * bytes <= 140737488355328) (hbase : base <= w.heap.size)
 (h : ∀ v' w',w'.ownsRow base e size v' (n + m) (xs ++ news) -> w.grownBy w' v.ownBlock -> K (a.put o.dst v') w') :
 if Region.wanted o (yielded ops a.tmps) = true then Oper.wp P o a w K Q else E:=by
 have hw : Region.wanted o (yielded ops a.tmps) = true:=by simp [Region.wanted,hgd]
 rw [if_pos hw]
 obtain ⟨i,hi,hz,hsize,hby⟩:=info_parts hinfo
 obtain ⟨v',w',hrun,h2,h3,_,_⟩:=run_append_own_at (P:=P) w base t o.type e i z size bytes ht hi hz hsize hby hz1 hs0 v n xs hown A m c news hm hc hu h63 hbytes hbase
 unfold Oper.wp execOp
 simp only [ho,resolve,invoke,builtin,Sem.run_bind,Sem.run_pure,Result.andThen_ok,List.map_toArray,List.map_cons,List.map_nil,hs,hx,hrun]
 exact h v' w' h2 h3
end
end Go.Proofs.YtbnppjmmlfncmaaGreatDoor
