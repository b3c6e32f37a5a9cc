/-
  utf.Whole tells whether a text has characters.
  Whether a text has characters: now utf.Whole.
  quote's Print: appendPrinted adds what stands for a byte.
  quote's Print: appendPrinted at a byte that is written with its digits; the text of a text.
  quote's Print: the text of a text, or refused.
  carry, pure: a key as a word, the one-line form, elements within a node.
  The reference's One: the character at the beginning.
  The reference's One where the character has two bytes by its first.
  The reference's One where the character has three bytes by its first.
-/
import Derived.Test.YtbnppjmmlfncmaaGreatDoorCsA04
import Derived.Deep.RegionLaw
import Derived.IntWalk
import Derived.Test.YtbnppjmmlfncmaaGreatDoorCsA03
import Derived.Test.YtbnppjmmlfncmaaGreatDoorCsA01
set_option maxRecDepth 100000
namespace Go.Proofs.YtbnppjmmlfncmaaGreatDoor
open Go.RowKit Go.Maps
set_option maxHeartbeats 1000000 in
theorem whole_utf (s : ByteArray) (w : World) (hm : s.size <= 140737488355328) :
 Calls Tryz.prog 72 #[.string s] w fun e w' => e = .returned (.bool (runesL s.data.toList).isSome) /\ Below w.heap.size w w':=by
 go_enter Tryz.func72,Tryz.ntmps72
 go_wp2_with (first
  | (go_at_call 101; refine (new_any _).mono ?_; rintro e w' ⟨rfl,rfl⟩))
 go_loopw [8] (fun i wr => ∃ (k : Nat) (l lo hi : Int),k <= s.size /\ i = .int .i64 k /\ ScanAt wr w.heap.size l lo hi /\ 0 <= l /\ l <= 3 /\ Below w.heap.size w wr /\ Hid (UtfAt s.data.toList k l lo hi)) (fun i _ => s.size - (intOf i).toNat)
 case atStart => exact ⟨0,0,128,191,Nat.zero_le _,rfl,Blk.new w _ _,by decide,by decide,(Below.refl _ _).alloc (Nat.le_refl _) _,Lib.hid ⟨0,[],rfl⟩⟩
 case round =>
  obtain ⟨k,l,lo,hi,hk,rfl,hsc,h0,h3,hbel,HW⟩:=hrel
  by_cases hlt : k < s.size
  ·have hle:=byte_le s[k]
   have HD:=Lib.hid (drop_cons s k hlt)
   have hr:=stL_range (b:=s[k].toNat) h0 h3
   obtain ⟨hr0,hr3⟩:=hr
   go_wp2_with fail
   refine (step_any _ _ _ _ _ _ hsc h0 h3 (by omega) hle).mono ?_
   rintro e w1 ⟨rfl,hg1,hs1⟩
   have hbel1 : Below w.heap.size w w1:=below_only hbel hg1 hbel.size (Nat.le_refl _)
   clear hg1 hsc hbel
   generalize hO : stOk l lo hi s[k].toNat = O at *
   have HO:=Lib.hid hO
   clear hO
   cases O
   ·have HE:=Lib.hid (utf_bad HD.out HW.out HO.out)
    go_wp2
    go_ret
    rw [HE.out]
    exact ⟨rfl,hbel1⟩
   ·rw [if_pos rfl] at hs1
    go_wp2
    go_roundw
    case rel => exact ⟨k + 1,_,_,_,by omega,by go_num,hs1,hr0,hr3,hbel1,Lib.hid (utf_step HD.out HW.out HO.out)⟩
    case measure => simp [intOf]; omega
  ·have hend:=utf_end (by simp; omega) HW.out
   have HE:=Lib.hid hend
   clear hend
   go_wp2_with (first
    | (go_at_call 109; refine (whole_any _ _ _ _ _ hsc).mono ?_; rintro e w' ⟨rfl,rfl⟩))
   go_ret
   rw [HE.out]
   exact ⟨rfl,hbel⟩
end Go.Proofs.YtbnppjmmlfncmaaGreatDoor
namespace Go.Proofs.YtbnppjmmlfncmaaGreatDoor.Qt
open Go.RowKit Go.Maps
theorem isutf_any (s : ByteArray) (w : World) (hm : s.size <= 140737488355328) :
 Calls Tryz.prog 72 #[.string s] w fun e w' => e = .returned (.bool (runesL s.data.toList).isSome) /\ Below w.heap.size w w' :=
 whole_utf s w hm
section
variable {P : Program} {w : World}
theorem step_appS {ops : Array Oper} {o : Oper} {a : Act} {K : Act -> World -> Prop} {Q : Exit -> Act -> World -> Prop} {E : Prop} (hgd : o.guard = none) (s x : Operand) (t : TypeId)
 (ho : o.op = .call { callee:=.builtin .append,args:=#[s,x],argTypes:=#[t,t] })
 (base : Nat) (e : TypeId) (z : Value) (bytes : Nat) (ht : P.underlying t = some (.slice e)) (hinfo : (P.info? e).map (fun i => (i.zero,i.size,i.bytes)) = some (some z,1,bytes)) (hz1 : z.cells.size = 1)
 (v : Value) (xs news : List Value) (hs : a.eval s = v) (hown : ORow w base e v xs) (hu : ∀ u ∈ news,u.oneCell' = true)
 (A : Addr) (m c : Nat) (hm : news.length = m) (hx : a.eval x = .slice (some A) m c) (hc : ∀ j u,news[j]? = some u -> w.cell? (A.add j) = some u)
 (h63 : xs.length + m <= maxLen) (hbytes : (xs.length + m) * bytes <= 140737488355328) (hbase : base <= w.heap.size)
 (h : ∀ v' w',ORow w' base e v' (xs ++ news) -> Below base w w' -> K (a.put o.dst v') w') :
 if Region.wanted o (yielded ops a.tmps) = true then Oper.wp P o a w K Q else E:=by
 have hw : Region.wanted o (yielded ops a.tmps) = true:=by simp [Region.wanted,hgd]
 rw [if_pos hw]
 obtain ⟨i,hi,hz,hsize,hby⟩:=info_parts hinfo
 obtain ⟨v',w',hrun,h2,h3,_,h5⟩:=run_append_own_at (P:=P) w base t o.type e i z 1 bytes ht hi hz hsize hby hz1 (by decide) v xs.length xs hown
  A m c news (by simp [hm]) hc hu h63 hbytes hbase
 unfold Oper.wp execOp
 simp only [ho,resolve,invoke,builtin,Sem.run_bind,Sem.run_pure,Result.andThen_ok,List.map_toArray,List.map_cons,List.map_nil,hs,hx,hrun]
 refine h v' w' ?_ ?_
 ·unfold ORow
  rw [List.length_append,hm]
  exact h2
 ·refine ⟨h3.os,h3.tape,h3.output,h3.size,fun k hk => h3.block k (by omega) fun hcc => ?_⟩
  have:=World.ownsRow.lt hown k hcc.symm
  omega
end
theorem cells_new (w : World) (l : List Value) (t : TypeId) : ∀ j u,l[j]? = some u -> (w.alloc (.cells l.toArray t)).cell? ((⟨w.heap.size,0,none⟩ : Addr).add j) = some u:=by
 intro j u hj
 rw [addr_add0]
 exact (Blk.new w t l.toArray).cell j |>.trans (by simpa using hj)
def PrPost (w : World) (base : Nat) (xs : List UInt8) (b : UInt8) (e : Ending) (w' : World) : Prop:=∃ v,e = .returned v /\ ORow w' base 5 v ((xs ++ prB b).map bV) /\ Below base w w'
theorem prPost_of {w w' : World} {base : Nat} {v : Value} {xs : List UInt8} {b : UInt8} {news : List Value} (h : (prB b).map bV = news) (ho : ORow w' base 5 v (xs.map bV ++ news)) (hb : Below base w w') : PrPost w base xs b (.returned v) w' :=
 ⟨v,rfl,by rw [List.map_append,h]; exact ho,hb⟩
set_option maxHeartbeats 1000000 in
theorem pr_34 (w : World) (base : Nat) (A : Option Addr) (cap : Nat) (xs : List UInt8) (b : UInt8) (ho : ORow w base 5 (.slice A xs.length cap) (xs.map bV)) (hl : xs.length <= 1000) (hbase : base <= w.heap.size)
 (HP : Hid ((prB b).map bV = [.int .u8 92,.int .u8 34])) :
 Calls Tryz.prog 73 #[.slice A xs.length cap,.int .u8 34] w (PrPost w base xs b):=by
 go_enter Tryz.func73,Tryz.ntmps73
 go_wp2_with (first
  | (at_builtin; refine wp_appS rfl _ _ 39 rfl base 5 (.int .u8 0) 1 Tryz.underlying39 Tryz.info5 rfl _ _ [.int .u8 92,.int .u8 34] rfl (by exact ho.alloc _) (by simp [Value.oneCell']) ⟨w.heap.size,0,none⟩ 2 2 rfl rfl (cells_new w [.int .u8 92,.int .u8 34] 5) (by simp [maxLen]; omega) (by simp; omega) (by simp; omega) ?_; intro v1 w1 hown1 hb1))
 go_ret
 exact prPost_of HP.out hown1 (((Below.refl base w).alloc hbase _).trans hb1)
set_option maxHeartbeats 1000000 in
theorem pr_92 (w : World) (base : Nat) (A : Option Addr) (cap : Nat) (xs : List UInt8) (b : UInt8) (ho : ORow w base 5 (.slice A xs.length cap) (xs.map bV)) (hl : xs.length <= 1000) (hbase : base <= w.heap.size)
 (HP : Hid ((prB b).map bV = [.int .u8 92,.int .u8 92])) :
 Calls Tryz.prog 73 #[.slice A xs.length cap,.int .u8 92] w (PrPost w base xs b):=by
 go_enter Tryz.func73,Tryz.ntmps73
 go_wp2_with (first
  | (at_builtin; refine wp_appS rfl _ _ 39 rfl base 5 (.int .u8 0) 1 Tryz.underlying39 Tryz.info5 rfl _ _ [.int .u8 92,.int .u8 92] rfl (by exact ho.alloc _) (by simp [Value.oneCell']) ⟨w.heap.size,0,none⟩ 2 2 rfl rfl (cells_new w [.int .u8 92,.int .u8 92] 5) (by simp [maxLen]; omega) (by simp; omega) (by simp; omega) ?_; intro v1 w1 hown1 hb1))
 go_ret
 exact prPost_of HP.out hown1 (((Below.refl base w).alloc hbase _).trans hb1)
set_option maxHeartbeats 1000000 in
theorem pr_10 (w : World) (base : Nat) (A : Option Addr) (cap : Nat) (xs : List UInt8) (b : UInt8) (ho : ORow w base 5 (.slice A xs.length cap) (xs.map bV)) (hl : xs.length <= 1000) (hbase : base <= w.heap.size)
 (HP : Hid ((prB b).map bV = [.int .u8 92,.int .u8 110])) :
 Calls Tryz.prog 73 #[.slice A xs.length cap,.int .u8 10] w (PrPost w base xs b):=by
 go_enter Tryz.func73,Tryz.ntmps73
 go_wp2_with (first
  | (at_builtin; refine wp_appS rfl _ _ 39 rfl base 5 (.int .u8 0) 1 Tryz.underlying39 Tryz.info5 rfl _ _ [.int .u8 92,.int .u8 110] rfl (by exact ho.alloc _) (by simp [Value.oneCell']) ⟨w.heap.size,0,none⟩ 2 2 rfl rfl (cells_new w [.int .u8 92,.int .u8 110] 5) (by simp [maxLen]; omega) (by simp; omega) (by simp; omega) ?_; intro v1 w1 hown1 hb1))
 go_ret
 exact prPost_of HP.out hown1 (((Below.refl base w).alloc hbase _).trans hb1)
set_option maxHeartbeats 1000000 in
theorem pr_9 (w : World) (base : Nat) (A : Option Addr) (cap : Nat) (xs : List UInt8) (b : UInt8) (ho : ORow w base 5 (.slice A xs.length cap) (xs.map bV)) (hl : xs.length <= 1000) (hbase : base <= w.heap.size)
 (HP : Hid ((prB b).map bV = [.int .u8 92,.int .u8 116])) :
 Calls Tryz.prog 73 #[.slice A xs.length cap,.int .u8 9] w (PrPost w base xs b):=by
 go_enter Tryz.func73,Tryz.ntmps73
 go_wp2_with (first
  | (at_builtin; refine wp_appS rfl _ _ 39 rfl base 5 (.int .u8 0) 1 Tryz.underlying39 Tryz.info5 rfl _ _ [.int .u8 92,.int .u8 116] rfl (by exact ho.alloc _) (by simp [Value.oneCell']) ⟨w.heap.size,0,none⟩ 2 2 rfl rfl (cells_new w [.int .u8 92,.int .u8 116] 5) (by simp [maxLen]; omega) (by simp; omega) (by simp; omega) ?_; intro v1 w1 hown1 hb1))
 go_ret
 exact prPost_of HP.out hown1 (((Below.refl base w).alloc hbase _).trans hb1)
set_option maxHeartbeats 1000000 in
theorem pr_13 (w : World) (base : Nat) (A : Option Addr) (cap : Nat) (xs : List UInt8) (b : UInt8) (ho : ORow w base 5 (.slice A xs.length cap) (xs.map bV)) (hl : xs.length <= 1000) (hbase : base <= w.heap.size)
 (HP : Hid ((prB b).map bV = [.int .u8 92,.int .u8 114])) :
 Calls Tryz.prog 73 #[.slice A xs.length cap,.int .u8 13] w (PrPost w base xs b):=by
 go_enter Tryz.func73,Tryz.ntmps73
 go_wp2_with (first
  | (at_builtin; refine wp_appS rfl _ _ 39 rfl base 5 (.int .u8 0) 1 Tryz.underlying39 Tryz.info5 rfl _ _ [.int .u8 92,.int .u8 114] rfl (by exact ho.alloc _) (by simp [Value.oneCell']) ⟨w.heap.size,0,none⟩ 2 2 rfl rfl (cells_new w [.int .u8 92,.int .u8 114] 5) (by simp [maxLen]; omega) (by simp; omega) (by simp; omega) ?_; intro v1 w1 hown1 hb1))
 go_ret
 exact prPost_of HP.out hown1 (((Below.refl base w).alloc hbase _).trans hb1)
set_option maxHeartbeats 1000000 in
theorem pr_char (w : World) (base : Nat) (A : Option Addr) (cap : Nat) (xs : List UInt8) (b : UInt8) (bi : Int) (ho : ORow w base 5 (.slice A xs.length cap) (xs.map bV)) (hl : xs.length <= 1000) (hbase : base <= w.heap.size)
 (HP : Hid ((prB b).map bV = [.int .u8 bi])) (h0 : 32 <= bi) (h1 : bi <= 255) (h2 : (bi == 34) = false) (h3 : (bi == 92) = false) :
 Calls Tryz.prog 73 #[.slice A xs.length cap,.int .u8 bi] w (PrPost w base xs b):=by
 go_enter Tryz.func73,Tryz.ntmps73
 go_wp2_with (first
  | (at_builtin; refine wp_appS rfl _ _ 39 rfl base 5 (.int .u8 0) 1 Tryz.underlying39 Tryz.info5 rfl _ _ [.int .u8 bi] rfl (by exact ho.alloc _) (by simp [Value.oneCell']) ⟨w.heap.size,0,none⟩ 1 1 rfl rfl (cells_new w [.int .u8 bi] 5) (by simp [maxLen]; omega) (by simp; omega) (by simp; omega) ?_; intro v1 w1 hown1 hb1))
 go_ret
 exact prPost_of HP.out hown1 (((Below.refl base w).alloc hbase _).trans hb1)
theorem hexAt_all : ∀ m : Fin 16,(((⟨#[48,49,50,51,52,53,54,55,56,57,97,98,99,100,101,102]⟩ : ByteArray)[m.val]'(by have:=m.isLt; exact this)).toNat : Int) = hexD (m.val : Int):=by decide
theorem hexAt (n : Int) (h0 : 0 <= n) (h1 : n < 16) (h : n.toNat < (⟨#[48,49,50,51,52,53,54,55,56,57,97,98,99,100,101,102]⟩ : ByteArray).size) :
 (((⟨#[48,49,50,51,52,53,54,55,56,57,97,98,99,100,101,102]⟩ : ByteArray)[n.toNat]'h).toNat : Int) = hexD n:=by
 have:=hexAt_all ⟨n.toNat,h⟩
 simp only at this
 rw [this]
 congr 1
 omega
section
variable {P : Program} {w : World}
theorem step_appN {ops : Array Oper} {o : Oper} {a : Act} {K : Act -> World -> Prop} {Q : Exit -> Act -> World -> Prop} {E : Prop} (hgd : o.guard = none) (s x : Operand) (t : TypeId)
 (ho : o.op = .call { callee:=.builtin .append,args:=#[s,x],argTypes:=#[t,t] })
 (base : Nat) (e : TypeId) (z : Value) (bytes : Nat) (ht : P.underlying t = some (.slice e)) (hinfo : (P.info? e).map (fun i => (i.zero,i.size,i.bytes)) = some (some z,1,bytes)) (hz1 : z.cells.size = 1)
 (v : Value) (xs : List Value) (C : Array Value) (m : Nat) (hs : a.eval s = v) (hown : ORow w base e v xs) (hu : ∀ u ∈ C.toList,u.oneCell' = true) (hm : C.size = m)
 (c : Nat) (hx : a.eval x = .slice (some ⟨w.heap.size,0,none⟩) m c)
 (h63 : xs.length + m <= maxLen) (hbytes : (xs.length + m) * bytes <= 140737488355328) (hbase : base <= w.heap.size)
 (h : ∀ v' w',ORow w' base e v' (xs ++ C.toList) -> Below base w w' -> K (a.put o.dst v') w') :
 if Region.wanted o (yielded ops a.tmps) = true then Oper.wp P o a ((w.alloc (.cells C e)).drew) K Q else E:=by
 refine step_appS hgd s x t ho base e z bytes ht hinfo hz1 v xs C.toList hs (hown.alloc _).drew hu ⟨w.heap.size,0,none⟩ m c hm hx (cells_new w C.toList e) h63 hbytes (by simp; omega) fun v' w' h1 h2 => h v' w' h1 ?_
 exact (below_drew ((Below.refl base w).alloc hbase _)).trans h2
end
set_option maxHeartbeats 1000000 in
theorem pr_ctl (w : World) (base : Nat) (A : Option Addr) (cap : Nat) (xs : List UInt8) (b : UInt8) (bi : Int) (ho : ORow w base 5 (.slice A xs.length cap) (xs.map bV)) (hl : xs.length <= 1000) (hbase : base <= w.heap.size)
 (HP : Hid ((prB b).map bV = [.int .u8 92,.int .u8 117,.int .u8 48,.int .u8 48,.int .u8 (hexD (bi / 16)),.int .u8 (hexD (bi % 16))])) (h0 : 0 <= bi) (h1 : bi < 32) (h2 : (bi == 10) = false) (h3 : (bi == 9) = false) (h4 : (bi == 13) = false) :
 Calls Tryz.prog 73 #[.slice A xs.length cap,.int .u8 bi] w (PrPost w base xs b):=by
 have e34 : (bi == 34) = false:=beq_eq_false_iff_ne.2 (by omega)
 have e92 : (bi == 92) = false:=beq_eq_false_iff_ne.2 (by omega)
 have e4:=u8_and15 bi h0 (show bi < 256 by omega)
 go_enter Tryz.func73,Tryz.ntmps73
 have q0 : 0 <= bi / 16:=by omega
 have q1 : bi / 16 < 16:=by omega
 have q2 : 0 <= bi % 16:=by omega
 have q3 : bi % 16 < 16:=by omega
 go_wp2_with fail
 go_region_law ((refine step_appN (by rfl) (.tmp 30) (.tmp 37) 39 (by rfl) base 5 (.int .u8 0) 1 Tryz.underlying39 Tryz.info5 (by rfl) _ _ _ 6 (by rfl) (by exact ho) (by simp [Value.oneCell']) (by rfl) _ (by rfl) (by simp [maxLen]; omega) (by simp; omega) (by omega) ?_; intro v1 w1 hown1 hb1))
 all_goals
  go_wp2
  go_ret
  rw [hexAt _ q0 q1,hexAt _ q2 q3] at hown1
  exact prPost_of HP.out hown1 hb1
theorem pr_any (w : World) (base : Nat) (v : Value) (xs : List UInt8) (b : UInt8) (ho : ORow w base 5 v (xs.map bV)) (hl : xs.length <= 1000) (hbase : base <= w.heap.size) :
 Calls Tryz.prog 73 #[v,.int .u8 (b.toNat : Int)] w (PrPost w base xs b):=by
 have hb:=byte_le b
 obtain ⟨A,cap,hv⟩:=ho.shape
 subst hv
 rw [List.length_map] at ho ⊢
 obtain ⟨bi,hbi⟩ : ∃ bi : Int,bi = (b.toNat : Int):=⟨_,rfl⟩
 have h0 : 0 <= bi:=by omega
 have h255 : bi <= 255:=by omega
 by_cases c34 : bi = 34
 ·have hp : (prB b).map bV = [.int .u8 92,.int .u8 34]:=by
   unfold prB; rw [if_pos (by omega)]
   simp only [List.map_cons,List.map_nil,bV]
   rw [<- hbi,c34]; rfl
  rw [<- hbi,c34]
  exact pr_34 w base A cap xs b ho hl hbase (Lib.hid hp)
 by_cases c92 : bi = 92
 ·have hp : (prB b).map bV = [.int .u8 92,.int .u8 92]:=by
   unfold prB; rw [if_pos (by omega)]
   simp only [List.map_cons,List.map_nil,bV]
   rw [<- hbi,c92]; rfl
  rw [<- hbi,c92]
  exact pr_92 w base A cap xs b ho hl hbase (Lib.hid hp)
 by_cases c10 : bi = 10
 ·have hp : (prB b).map bV = [.int .u8 92,.int .u8 110]:=by
   unfold prB; rw [if_neg (by omega),if_pos (by omega)]; rfl
  rw [<- hbi,c10]
  exact pr_10 w base A cap xs b ho hl hbase (Lib.hid hp)
 by_cases c9 : bi = 9
 ·have hp : (prB b).map bV = [.int .u8 92,.int .u8 116]:=by
   unfold prB; rw [if_neg (by omega),if_neg (by omega),if_pos (by omega)]; rfl
  rw [<- hbi,c9]
  exact pr_9 w base A cap xs b ho hl hbase (Lib.hid hp)
 by_cases c13 : bi = 13
 ·have hp : (prB b).map bV = [.int .u8 92,.int .u8 114]:=by
   unfold prB; rw [if_neg (by omega),if_neg (by omega),if_neg (by omega),if_pos (by omega)]; rfl
  rw [<- hbi,c13]
  exact pr_13 w base A cap xs b ho hl hbase (Lib.hid hp)
 by_cases c32 : bi < 32
 ·have q0 : 0 <= bi / 16 /\ bi / 16 < 16:=by omega
  have q1 : 0 <= bi % 16 /\ bi % 16 < 16:=by omega
  have r0:=hexD_rg _ q0.1 q0.2
  have r1:=hexD_rg _ q1.1 q1.2
  have hp : (prB b).map bV = [.int .u8 92,.int .u8 117,.int .u8 48,.int .u8 48,.int .u8 (hexD (bi / 16)),.int .u8 (hexD (bi % 16))]:=by
   unfold prB; rw [if_neg (by omega),if_neg (by omega),if_neg (by omega),if_neg (by omega),if_pos (by omega)]
   rw [<- hbi]
   simp only [List.map_cons,List.map_nil]
   rw [bV_b8 _ r0.1 r0.2,bV_b8 _ r1.1 r1.2]
   rfl
  rw [<- hbi]
  exact pr_ctl w base A cap xs b bi ho hl hbase (Lib.hid hp) h0 c32 (beq_eq_false_iff_ne.2 c10) (beq_eq_false_iff_ne.2 c9) (beq_eq_false_iff_ne.2 c13)
 ·have hp : (prB b).map bV = [.int .u8 bi]:=by
   unfold prB; rw [if_neg (by omega),if_neg (by omega),if_neg (by omega),if_neg (by omega),if_neg (by omega)]
   simp only [List.map_cons,List.map_nil,bV]
   rw [<- hbi]
  rw [<- hbi]
  exact pr_char w base A cap xs b bi ho hl hbase (Lib.hid hp) (by omega) h255 (beq_eq_false_iff_ne.2 c34) (beq_eq_false_iff_ne.2 c92)
def prText (L : List UInt8) : List UInt8:=if (runesL L).isSome = true then (if 48 < L.length then [] else printL L) else []
def prErr (L : List UInt8) : Int:=if (runesL L).isSome = true then (if 48 < L.length then 4 else 0) else 3
def PrintEnd (L : List UInt8) : Ending:=.returned (.tuple #[.string ⟨(prText L).toArray⟩,.int .i64 (prErr L)])
set_option maxHeartbeats 1000000 in
theorem print_any (s : ByteArray) (w : World) (hm : s.size <= 140737488355328) :
 Calls Tryz.prog 42 #[.string s] w fun e w' => e = PrintEnd s.data.toList /\ Below w.heap.size w w':=by
 have hsz : s.data.toList.length = s.size:=by simp
 by_cases hu : (runesL s.data.toList).isSome = true
 ·by_cases ho : 48 < s.size
  ·have hE : PrintEnd s.data.toList = .returned (.tuple #[.string ⟨#[]⟩,.int .i64 4]):=by
    unfold PrintEnd prText prErr; rw [if_pos hu,if_pos hu,if_pos (by omega),if_pos (by omega)]
   rw [hE]
   have HU:=Lib.hid hu
   clear hE hu
   go_enter Tryz.func42,Tryz.ntmps42
   go_wp2_with (first
    | (go_at_call 72; refine (isutf_any s _ hm).mono ?_; rintro e w1 ⟨rfl,hb1⟩; rw [HU.out]))
   go_ret2
   exact ⟨rfl,hb1⟩
  ·have hE : PrintEnd s.data.toList = .returned (.tuple #[.string ⟨(34 :: (prAll s.data.toList ++ [34])).toArray⟩,.int .i64 0]):=by
    unfold PrintEnd prText prErr; rw [if_pos hu,if_pos hu,if_neg (by omega),if_neg (by omega)]; rfl
   rw [hE]
   have HU:=Lib.hid hu
   clear hE hu
   go_enter Tryz.func42,Tryz.ntmps42
   go_wp2_with (first
    | (go_at_call 72; refine (isutf_any s _ hm).mono ?_; rintro e w1 ⟨rfl,hb1⟩; rw [HU.out]))
   have hs1:=hb1.size
   go_loopw [4,15] (fun v i wr => ∃ (k : Nat),k <= s.size /\ i = .int .i64 k /\ ORow wr w.heap.size 5 v ((34 :: prAll (s.data.toList.take k)).map bV) /\ Below w.heap.size w wr) (fun _ i _ => s.size - (intOf i).toNat)
   case atStart => exact ⟨0,Nat.zero_le _,rfl,by have:=ORow.lit w1 w.heap.size 5 #[.int .u8 34] hs1 (by simp [maxLen]); exact this,hb1.alloc hs1 _⟩
   case round =>
    obtain ⟨k,hk,rfl,hown,hbel⟩:=hrel
    have hbs:=hbel.size
    have hlen:=(prAll_len (s.data.toList.take k)).2
    have htl : (s.data.toList.take k).length <= k:=List.length_take_le _ _
    by_cases hlt : k < s.size
    ·have hle:=byte_le s[k]
     have HT:=Lib.hid (take_snoc s k hlt)
     go_wp2_with fail
     refine (pr_any _ _ _ (34 :: prAll (s.data.toList.take k)) s[k] hown (by simp; omega) hbs).mono ?_
     rintro e w2 ⟨v2,rfl,hown2,hb2⟩
     go_wp2
     go_roundw
     case rel => exact ⟨k + 1,by omega,by go_num,by rw [HT.out,prAll_snoc]; exact hown2,hbel.trans hb2⟩
     case measure => simp [intOf]; omega
    ·have hkn : k = s.size:=by omega
     subst hkn
     have htk : s.data.toList.take s.size = s.data.toList:=List.take_of_length_le (by omega)
     rw [htk] at hown hlen
     obtain ⟨A,cap,hv⟩:=hown.shape
     subst hv
     rw [List.length_map] at hown
     rw [List.length_map]
     have hx : (34 :: prAll s.data.toList).length <= 1000:=by simp; omega
     go_wp2_with (first
      | (at_builtin; refine wp_appS rfl _ _ 39 rfl w.heap.size 5 (.int .u8 0) 1 Tryz.underlying39 Tryz.info5 rfl _ _ [.int .u8 34] rfl (by exact hown.alloc _) (by simp [Value.oneCell']) ⟨wr.heap.size,0,none⟩ 1 1 rfl rfl (cells_new wr [.int .u8 34] 5) (by simp [maxLen] at hx ⊢; omega) (by simp at hx ⊢; omega) (by simp; omega) ?_; intro v2 w2 hown2 hb2))
     have hstr:=put_str (34 :: (prAll s.data.toList ++ [34])) (by simpa [bV] using hown2)
     first | rw [hstr] | skip
     go_wp2
     go_ret2
     exact ⟨rfl,(hbel.alloc hbs _).trans hb2⟩
 ·have hE : PrintEnd s.data.toList = .returned (.tuple #[.string ⟨#[]⟩,.int .i64 3]):=by
   unfold PrintEnd prText prErr; rw [if_neg hu,if_neg hu]
  have huf : (runesL s.data.toList).isSome = false:=by simpa using hu
  rw [hE]
  have HU:=Lib.hid huf
  clear hE hu huf
  go_enter Tryz.func42,Tryz.ntmps42
  go_wp2_with (first
   | (go_at_call 72; refine (isutf_any s _ hm).mono ?_; rintro e w1 ⟨rfl,hb1⟩; rw [HU.out]))
  go_ret2
  exact ⟨rfl,hb1⟩
end Go.Proofs.YtbnppjmmlfncmaaGreatDoor.Qt
namespace Go.Proofs.YtbnppjmmlfncmaaGreatDoor
def dNd : Nd:=.mk 0 ⟨#[]⟩ ⟨#[]⟩ []
theorem getDn {l : List Nd} {j : Nat} (h : j < l.length) : l.getD j dNd = l[j]:=by simp [List.getD_eq_getElem?_getD,List.getElem?_eq_getElem h]
def wordL (L : List UInt8) : List UInt8:=if localL L = true /\ (46 : UInt8) ∉ L then L else Qt.prText L
mutual
def rowN : Nd -> List UInt8
 | .mk k t _ kids => if k = 1 then [110,117,108,108] else if k = 4 then Qt.prText t.data.toList else if k = 5 then 91 :: (seqN true kids ++ [93]) else if k = 7 then 123 :: (seqN true kids ++ [125])
  else if k = 8 then wordL t.data.toList ++ ([32,61,32] ++ seqN true kids) else t.data.toList
def seqN : Bool -> List Nd -> List UInt8
 | _,[] => []
 | b,n :: r => (if b = true then [] else [44,32]) ++ (rowN n ++ seqN false r)
end
theorem seqN_snoc : ∀ (l : List Nd) (b : Bool) (m : Nd),seqN b (l ++ [m]) = seqN b l ++ ((if b = true /\ l = [] then [] else [44,32]) ++ rowN m)
 | [],b,m => by cases b <;> simp [seqN]
 | n :: r,b,m => by
  simp only [List.cons_append,seqN,seqN_snoc r false m]
  simp [List.append_assoc]
theorem shapedL_mem : ∀ {l : List Nd},shapedL l = true ↔ ∀ n ∈ l,shaped n = true
 | [] => by simp [shapedL]
 | n :: r => by simp only [shapedL,Bool.and_eq_true,shapedL_mem (l:=r),List.mem_cons,forall_eq_or_imp]
mutual
def elemN : Nd -> Bool
 | .mk k _ _ kids => decide (k = 10) || elemL kids
def elemL : List Nd -> Bool
 | [] => false
 | n :: r => elemN n || elemL r
end
theorem elemL_any (l : List Nd) : elemL l = l.any elemN:=by
 induction l with
 | nil => rfl
 | cons n r ih => simp [elemL,ih]
theorem prText_len (L : List UInt8) : (Qt.prText L).length <= 290:=by
 unfold Qt.prText
 split
 ·split
  ·simp
  ·have h1:=Qt.printL_len L
   have h2:=(Qt.prAll_len L).2
   omega
 ·simp
theorem wordL_len (L : List UInt8) : (wordL L).length <= L.length + 290:=by
 unfold wordL
 split
 ·omega
 ·have:=prText_len L; omega
mutual
theorem rowN_len : ∀ n : Nd,smallT n -> (rowN n).length + 2 <= sizeN n * 1048900
 | .mk k t v kids,h => by
  obtain ⟨h1,_,h3⟩:=h
  have hl:=seqN_len kids h3 true
  have h5 : t.data.toList.length = t.size:=by simp
  have hp:=prText_len t.data.toList
  have hw:=wordL_len t.data.toList
  simp only [rowN,sizeN]
  repeat' split
  all_goals ((try simp only [List.length_cons,List.length_append,List.length_nil]); omega)
theorem seqN_len : ∀ l : List Nd,smallL l -> ∀ b,(seqN b l).length <= sizeL l * 1048900
 | [],_,b => by simp [seqN]
 | n :: r,h,b => by
  have h1:=rowN_len n h.1
  have h2:=seqN_len r h.2 false
  simp only [seqN,sizeL,List.length_append]
  have h3 : (if b = true then ([] : List UInt8) else [44,32]).length <= 2:=by split <;> simp
  omega
end
open Go.RowKit
theorem bytes_cons (s : ByteArray) (h : 0 < s.size) : s.data.toList = s[0] :: s.data.toList.drop 1:=by
 have : s.data.toList = s.data.toList.drop 0:=rfl
 rw [this,List.drop_eq_getElem_cons (by simpa using h)]
 rfl
theorem bytes_take (s : ByteArray) (k : Nat) (h1 : 1 <= k) (h : k < s.size) : (s.data.toList.drop 1).take k = (s.data.toList.drop 1).take (k - 1) ++ [s[k]]:=by
 obtain ⟨j,rfl⟩ : ∃ j,k = j + 1:=⟨k - 1,by omega⟩
 simp only [Nat.add_sub_cancel]
 rw [List.take_succ_eq_append_getElem (by simp; omega)]
 congr 1
 simp [ByteArray.getElem_eq_getElem_data]
def OneEnd (l : List UInt8) (e : Ending) : Prop:=e = .returned (.tuple #[.int .i64 (oneL l).1,.int .i64 (oneL l).2])
theorem oneEnd_of {l : List UInt8} {r n : Int} (h : oneL l = (r,n)) : OneEnd l (.returned (.tuple #[.int .i64 r,.int .i64 n])):=by unfold OneEnd; rw [h]
theorem one_0 (s : ByteArray) (w : World) (h : s.size = 0) :
 Calls Tryz.prog 138 #[.string s] w fun e w' => OneEnd s.data.toList e /\ w = w':=by
 have hl : s.data.toList = []:=List.eq_nil_of_length_eq_zero (by simpa using h)
 have hb : ((s.size : Int) == 0) = true:=by simp [h]
 rw [hl]
 clear h hl
 go_enter Tryz.func138,Tryz.ntmps138
 go_wp2
 go_ret2
 exact ⟨oneEnd_of rfl,rfl⟩
theorem one_1 (s : ByteArray) (w : World) (hm : s.size <= 140737488355328) (h : 0 < s.size) (hc : (s[0].toNat : Int) < 128) :
 Calls Tryz.prog 138 #[.string s] w fun e w' => OneEnd s.data.toList e /\ w = w':=by
 have hb : ((s.size : Int) == 0) = false:=beq_eq_false_iff_ne.2 (by omega)
 have hone : oneL s.data.toList = ((s[0].toNat : Int),1):=by rw [bytes_cons s h,oneL,if_pos hc]
 have HO:=Lib.hid hone
 clear hone
 go_enter Tryz.func138,Tryz.ntmps138
 go_wp2
 go_ret2
 exact ⟨oneEnd_of HO.out,rfl⟩
theorem one_bad (s : ByteArray) (w : World) (hm : s.size <= 140737488355328) (h : 0 < s.size) (hc : 128 <= (s[0].toNat : Int)) (hn : (s[0].toNat : Int) < 192 \/ 248 <= (s[0].toNat : Int)) :
 Calls Tryz.prog 138 #[.string s] w fun e w' => OneEnd s.data.toList e /\ w = w':=by
 have hb : ((s.size : Int) == 0) = false:=beq_eq_false_iff_ne.2 (by omega)
 have hone : oneL s.data.toList = (0,0):=by
  have : leadN (s[0].toNat : Int) = 0:=by unfold leadN; rw [if_neg (by omega),if_neg (by omega),if_neg (by omega)]
  rw [bytes_cons s h,oneL,if_neg (by omega),if_pos (.inl this)]
 have HO:=Lib.hid hone
 clear hone
 have hle:=byte_le s[0]
 rcases hn with hn | hn
 all_goals
  go_enter Tryz.func138,Tryz.ntmps138
  go_wp2
  go_ret2
  exact ⟨oneEnd_of HO.out,rfl⟩
theorem one_short (s : ByteArray) (w : World) (hm : s.size <= 140737488355328) (h : 0 < s.size) (hc : 192 <= (s[0].toNat : Int)) (hn : (s[0].toNat : Int) < 248) (hs : (s.size : Int) < leadN s[0].toNat) :
 Calls Tryz.prog 138 #[.string s] w fun e w' => OneEnd s.data.toList e /\ w = w':=by
 have hb : ((s.size : Int) == 0) = false:=beq_eq_false_iff_ne.2 (by omega)
 have hone : oneL s.data.toList = (0,0):=by
  have hz : ((s.data.toList.drop 1).length : Int) + 1 = s.size:=by simp; omega
  rw [bytes_cons s h,oneL,if_neg (by omega),if_pos (.inr (by omega))]
 have HO:=Lib.hid hone
 clear hone
 rcases (show ((s[0].toNat : Int) < 224 /\ (s.size : Int) < 2) \/ (224 <= (s[0].toNat : Int) /\ (s[0].toNat : Int) < 240 /\ (s.size : Int) < 3) \/ (240 <= (s[0].toNat : Int) /\ (s.size : Int) < 4) by
  unfold leadN at hs
  split at hs
  ·omega
  ·split at hs
   ·omega
   ·split at hs <;> omega) with ⟨g1,g2⟩ | ⟨g1,g2,g3⟩ | ⟨g1,g2⟩
 all_goals
  clear hs
  go_enter Tryz.func138,Tryz.ntmps138
  go_wp2
  go_ret2
  exact ⟨oneEnd_of HO.out,rfl⟩
set_option maxHeartbeats 1000000 in
theorem one_2b (s : ByteArray) (w : World) (hm : s.size <= 140737488355328) (h : 0 < s.size) (a : 192 <= (s[0].toNat : Int)) (b : (s[0].toNat : Int) < 224) (hs : 2 <= s.size)
 (hone : oneL s.data.toList = oneFin 2 (tails ((s[0].toNat : Int) - 192) ((s.data.toList.drop 1).take 1))) :
 Calls Tryz.prog 138 #[.string s] w fun e w' => OneEnd s.data.toList e /\ w = w':=by
 have hb : ((s.size : Int) == 0) = false:=beq_eq_false_iff_ne.2 (by omega)
 have HO:=Lib.hid hone
 clear hone
 go_enter Tryz.func138,Tryz.ntmps138
 go_wp2
 generalize hV : (s[0].toNat : Int) - 192 = V at *
 have hV0 : 0 <= V /\ V < 64:=by omega
 have HV:=Lib.hid hV
 clear hV
 go_loop [6,7] (fun u i => ∃ (k : Nat) (x : Int),1 <= k /\ k <= 2 /\ i = .int .i64 k /\ u = .int .i64 x /\ 0 <= x /\ x < ((64 ^ k : Nat) : Int) /\ Hid (tails V ((s.data.toList.drop 1).take (k - 1)) = some x)) (fun _ i => 2 - (intOf i).toNat)
 case atStart => exact ⟨1,V,by omega,by omega,rfl,rfl,hV0.1,hV0.2,Lib.hid rfl⟩
 case round =>
  obtain ⟨k,x,hk1,hk,rfl,rfl,hx0,hx1,HT⟩:=hrel
  by_cases hlt : k < 2
  ·have hbt:=bytes_take s k hk1 (by omega)
   have hsn:=tails_snoc V ((s.data.toList.drop 1).take (k - 1)) s[k]
   rw [<- hbt,HT.out] at hsn
   simp only [Option.bind_some] at hsn
   have HS:=Lib.hid hsn
   clear hsn hbt
   have hpow : ((64 ^ (k + 1) : Nat) : Int) = 64 * ((64 ^ k : Nat) : Int):=by rw [Nat.pow_succ]; omega
   have hpw:=Lib.hid hpow
   clear hpow
   have hp4 : ((64 ^ k : Nat) : Int) <= 262144:=by
    have : 64 ^ k <= 64 ^ 3:=Nat.pow_le_pow_right (by decide) (by omega)
    omega
   have hle:=byte_le s[k]
   by_cases hd : (s[k].toNat : Int) < 128
   ·go_wp2
    go_ret2
    have hnone : tails V ((s.data.toList.drop 1).take 1) = none:=tails_none_take _ _ k _ (by omega) (by rw [HS.out,if_pos (.inl hd)])
    refine ⟨oneEnd_of ?_,rfl⟩
    rw [HO.out,hnone]; rfl
   by_cases hd2 : (s[k].toNat : Int) < 192
   ·have hx2 : x <= 262143:=by omega
    go_wp2
    go_round
    case rel => exact ⟨k + 1,64 * x + (s[k].toNat : Int) - 128,by omega,by omega,by go_num,by first | rfl | go_num,by omega,by rw [hpw.out]; omega,Lib.hid (by rw [Nat.add_sub_cancel,HS.out,if_neg (by omega)])⟩
    case measure => simp [intOf]; omega
   ·have hd3 : 192 <= (s[k].toNat : Int):=by omega
    go_wp2
    go_ret2
    have hnone : tails V ((s.data.toList.drop 1).take 1) = none:=tails_none_take _ _ k _ (by omega) (by rw [HS.out,if_pos (.inr hd3)])
    refine ⟨oneEnd_of ?_,rfl⟩
    rw [HO.out,hnone]; rfl
  ·have hkN : k = 2:=by omega
   subst hkN
   have hfin : oneL s.data.toList = oneFin 2 (some x):=by rw [HO.out]; exact congrArg _ HT.out
   clear HO HT
   have HF:=Lib.hid hfin
   clear hfin
   by_cases hmy : mayB x = true
   ·have HM:=Lib.hid hmy
    clear hmy
    by_cases hlg : longI x = 2
    ·have hne : (longI x != 2) = false:=by simp [hlg]
     have HL:=Lib.hid hlg
     clear hlg
     go_wp2_with (first
      | (go_at_call 158; refine (may_any _ _).mono ?_; rintro e w' ⟨rfl,rfl⟩; rw [HM.out])
      | (go_at_call 159; refine (long_any _ _).mono ?_; rintro e w' ⟨rfl,rfl⟩))
     go_ret2
     exact ⟨oneEnd_of (by rw [HF.out]; exact if_pos ⟨HM.out,HL.out⟩),rfl⟩
    ·have hne : (longI x != 2) = true:=bne_iff_ne.2 hlg
     go_wp2_with (first
      | (go_at_call 158; refine (may_any _ _).mono ?_; rintro e w' ⟨rfl,rfl⟩; rw [HM.out])
      | (go_at_call 159; refine (long_any _ _).mono ?_; rintro e w' ⟨rfl,rfl⟩))
     go_ret2
     exact ⟨oneEnd_of (by rw [HF.out]; exact if_neg (fun h => hlg h.2)),rfl⟩
   ·have hmf : mayB x = false:=by simpa using hmy
    have HM:=Lib.hid hmf
    clear hmf
    have HM2:=Lib.hid hmy
    clear hmy
    go_wp2_with (first
     | (go_at_call 158; refine (may_any _ _).mono ?_; rintro e w' ⟨rfl,rfl⟩; rw [HM.out]))
    go_ret2
    exact ⟨oneEnd_of (by rw [HF.out]; exact if_neg (fun h => HM2.out h.1)),rfl⟩
set_option maxHeartbeats 1000000 in
theorem one_3b (s : ByteArray) (w : World) (hm : s.size <= 140737488355328) (h : 0 < s.size) (a : 224 <= (s[0].toNat : Int)) (b : (s[0].toNat : Int) < 240) (hs : 3 <= s.size)
 (hone : oneL s.data.toList = oneFin 3 (tails ((s[0].toNat : Int) - 224) ((s.data.toList.drop 1).take 2))) :
 Calls Tryz.prog 138 #[.string s] w fun e w' => OneEnd s.data.toList e /\ w = w':=by
 have hb : ((s.size : Int) == 0) = false:=beq_eq_false_iff_ne.2 (by omega)
 have HO:=Lib.hid hone
 clear hone
 go_enter Tryz.func138,Tryz.ntmps138
 go_wp2
 generalize hV : (s[0].toNat : Int) - 224 = V at *
 have hV0 : 0 <= V /\ V < 64:=by omega
 have HV:=Lib.hid hV
 clear hV
 go_loop [6,7] (fun u i => ∃ (k : Nat) (x : Int),1 <= k /\ k <= 3 /\ i = .int .i64 k /\ u = .int .i64 x /\ 0 <= x /\ x < ((64 ^ k : Nat) : Int) /\ Hid (tails V ((s.data.toList.drop 1).take (k - 1)) = some x)) (fun _ i => 3 - (intOf i).toNat)
 case atStart => exact ⟨1,V,by omega,by omega,rfl,rfl,hV0.1,hV0.2,Lib.hid rfl⟩
 case round =>
  obtain ⟨k,x,hk1,hk,rfl,rfl,hx0,hx1,HT⟩:=hrel
  by_cases hlt : k < 3
  ·have hbt:=bytes_take s k hk1 (by omega)
   have hsn:=tails_snoc V ((s.data.toList.drop 1).take (k - 1)) s[k]
   rw [<- hbt,HT.out] at hsn
   simp only [Option.bind_some] at hsn
   have HS:=Lib.hid hsn
   clear hsn hbt
   have hpow : ((64 ^ (k + 1) : Nat) : Int) = 64 * ((64 ^ k : Nat) : Int):=by rw [Nat.pow_succ]; omega
   have hpw:=Lib.hid hpow
   clear hpow
   have hp4 : ((64 ^ k : Nat) : Int) <= 262144:=by
    have : 64 ^ k <= 64 ^ 3:=Nat.pow_le_pow_right (by decide) (by omega)
    omega
   have hle:=byte_le s[k]
   by_cases hd : (s[k].toNat : Int) < 128
   ·go_wp2
    go_ret2
    have hnone : tails V ((s.data.toList.drop 1).take 2) = none:=tails_none_take _ _ k _ (by omega) (by rw [HS.out,if_pos (.inl hd)])
    refine ⟨oneEnd_of ?_,rfl⟩
    rw [HO.out,hnone]; rfl
   by_cases hd2 : (s[k].toNat : Int) < 192
   ·have hx2 : x <= 262143:=by omega
    go_wp2
    go_round
    case rel => exact ⟨k + 1,64 * x + (s[k].toNat : Int) - 128,by omega,by omega,by go_num,by first | rfl | go_num,by omega,by rw [hpw.out]; omega,Lib.hid (by rw [Nat.add_sub_cancel,HS.out,if_neg (by omega)])⟩
    case measure => simp [intOf]; omega
   ·have hd3 : 192 <= (s[k].toNat : Int):=by omega
    go_wp2
    go_ret2
    have hnone : tails V ((s.data.toList.drop 1).take 2) = none:=tails_none_take _ _ k _ (by omega) (by rw [HS.out,if_pos (.inr hd3)])
    refine ⟨oneEnd_of ?_,rfl⟩
    rw [HO.out,hnone]; rfl
  ·have hkN : k = 3:=by omega
   subst hkN
   have hfin : oneL s.data.toList = oneFin 3 (some x):=by rw [HO.out]; exact congrArg _ HT.out
   clear HO HT
   have HF:=Lib.hid hfin
   clear hfin
   by_cases hmy : mayB x = true
   ·have HM:=Lib.hid hmy
    clear hmy
    by_cases hlg : longI x = 3
    ·have hne : (longI x != 3) = false:=by simp [hlg]
     have HL:=Lib.hid hlg
     clear hlg
     go_wp2_with (first
      | (go_at_call 158; refine (may_any _ _).mono ?_; rintro e w' ⟨rfl,rfl⟩; rw [HM.out])
      | (go_at_call 159; refine (long_any _ _).mono ?_; rintro e w' ⟨rfl,rfl⟩))
     go_ret2
     exact ⟨oneEnd_of (by rw [HF.out]; exact if_pos ⟨HM.out,HL.out⟩),rfl⟩
    ·have hne : (longI x != 3) = true:=bne_iff_ne.2 hlg
     go_wp2_with (first
      | (go_at_call 158; refine (may_any _ _).mono ?_; rintro e w' ⟨rfl,rfl⟩; rw [HM.out])
      | (go_at_call 159; refine (long_any _ _).mono ?_; rintro e w' ⟨rfl,rfl⟩))
     go_ret2
     exact ⟨oneEnd_of (by rw [HF.out]; exact if_neg (fun h => hlg h.2)),rfl⟩
   ·have hmf : mayB x = false:=by simpa using hmy
    have HM:=Lib.hid hmf
    clear hmf
    have HM2:=Lib.hid hmy
    clear hmy
    go_wp2_with (first
     | (go_at_call 158; refine (may_any _ _).mono ?_; rintro e w' ⟨rfl,rfl⟩; rw [HM.out]))
    go_ret2
    exact ⟨oneEnd_of (by rw [HF.out]; exact if_neg (fun h => HM2.out h.1)),rfl⟩
end Go.Proofs.YtbnppjmmlfncmaaGreatDoor
