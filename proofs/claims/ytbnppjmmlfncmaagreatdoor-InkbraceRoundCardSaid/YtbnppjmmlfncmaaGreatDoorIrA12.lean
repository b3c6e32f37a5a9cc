/-
  num's form: its contract.
  num's parse and Read: their contracts.
  num's Read and Compare: their contracts.
  events: which events are allowed (valid, normal, formed), and isValue.
-/
import Derived.Test.YtbnppjmmlfncmaaGreatDoorIrA11
import Derived.Lib.AppendStr
import Derived.Deep.RegionHeld3
import Derived.IntWalk
import Derived.Stop.LaidErr
import Derived.Test.YtbnppjmmlfncmaaGreatDoorIrA03
import Derived.Test.YtbnppjmmlfncmaaGreatDoorIrA10
import Derived.Test.YtbnppjmmlfncmaaGreatDoorIrA09
set_option maxRecDepth 100000
namespace Go.Proofs.YtbnppjmmlfncmaaGreatDoor.Nm
open Go.RowKit
section
variable {P : Program} {w : World}
theorem wp_appS {ops : Array Oper} {rest : List Oper} {o : Oper} {a : Act} {Q : Exit -> Act -> World -> Prop} (hgd : o.guard = none) (s x : Operand) (t u : TypeId)
 (ho : o.op = .call { callee:=.builtin .append,args:=#[s,x],argTypes:=#[t,u] })
 (base : Nat) (e : TypeId) (ht : P.underlying t = some (.slice e)) (hu : P.underlying u = some .string) (hinfo : (P.info? e).map (fun i => (i.zero,i.size,i.bytes)) = some (some (.int .u8 0),1,1))
 (v : Value) (l : List UInt8) (hs : a.eval s = v) (hown : ORow w base e v (l.map bV)) (str : ByteArray) (hx : a.eval x = .string str)
 (h63 : l.length + str.size <= maxLen) (hbytes : l.length + str.size <= 140737488355328) (hbase : base <= w.heap.size)
 (h : ∀ v' w',ORow w' base e v' ((l ++ str.data.toList).map bV) -> Below base w w' -> wpList P ops Q rest (a.put o.dst v') w') :
 wpList P ops Q (o :: rest) a w:=by
 obtain ⟨i,hi,hz,hsize,hby⟩:=info_parts hinfo
 refine wpList_plain hgd fun K hK => ?_
 obtain ⟨v',w',hrun,h2,h3,_⟩:=Lib.run_append_own_string (P:=P) w base t u o.type e i ht hu hi hz hsize hby v _ _ hown str (by simpa using h63) (by simpa using hbytes) hbase
 unfold Oper.wp execOp
 simp only [ho,resolve,invoke,builtin,Sem.run_bind,Sem.run_pure,Result.andThen_ok,List.map_toArray,List.map_cons,List.map_nil,hs,hx,hrun]
 refine hK _ _ (h v' w' ?_ ?_)
 ·unfold ORow
  have e1 : (l ++ str.data.toList).map bV = l.map bV ++ Lib.strCells str:=by rw [List.map_append]; rfl
  have e2 : (l.map bV ++ Lib.strCells str).length = (l.map bV).length + str.size:=by rw [List.length_append,Lib.strCells_length]
  rw [e1,e2]
  exact h2
 ·refine ⟨h3.os,h3.tape,h3.output,h3.size,fun k hk => h3.block k (by omega) fun hc => ?_⟩
  have:=World.ownsRow.lt hown k hc.symm
  omega
end
theorem Tryz.info5 : (Tryz.prog.info? 5).map (fun i => (i.zero,i.size,i.bytes)) = some (some (.int .u8 0),1,1):=by kernel_rfl
theorem put_str {w : World} {base : Nat} {v : Value} (l : List UInt8) (h : ORow w base 5 v (l.map bV)) : (convert 39 9 v).run Tryz.prog w = .ok (.string ⟨l.toArray⟩) w :=
 run_string_of_row _ _ l Tryz.underlying39 Tryz.underlying5 Tryz.underlying9 h
theorem wp_app1g {P : Program} {w : World} {ops : Array Oper} {rest : List Oper} {o : Oper} {a : Act} {Q : Exit -> Act -> World -> Prop} (hgd : o.guard = none) (s x : Operand) (t : TypeId)
 (ho : o.op = .call { callee:=.builtin .append,args:=#[s,x],argTypes:=#[t,t] })
 (base : Nat) (e : TypeId) (z : Value) (bytes : Nat) (ht : P.underlying t = some (.slice e)) (hinfo : (P.info? e).map (fun i => (i.zero,i.size,i.bytes)) = some (some z,1,bytes)) (hz1 : z.cells.size = 1)
 (v : Value) (xs : List Value) (u : Value) (hs : a.eval s = v) (hown : ORow w base e v xs) (hu : u.oneCell' = true)
 (c g : Nat) (hx : a.eval x = .slice (some ⟨g,0,none⟩) 1 c) (hg : g = w.heap.size)
 (h63 : xs.length + 1 <= maxLen) (hbytes : (xs.length + 1) * bytes <= 140737488355328) (hbase : base <= w.heap.size)
 (h : ∀ v' w',ORow w' base e v' (xs ++ [u]) -> Below base w w' -> wpList P ops Q rest (a.put o.dst v') w') :
 wpList P ops Q (o :: rest) a (w.alloc (.cells #[u] e)):=by
 subst hg
 exact wp_app1b hgd s x t ho base e z bytes ht hinfo hz1 v xs u hs hown hu c hx h63 hbytes hbase h
theorem row_cells {w : World} {B : Nat} {v : Value} {l r : List UInt8} {n : Nat} (hn : n = l.length + r.length) (h : w.ownsRow B 5 1 v n (l.map bV ++ Lib.byteCells r)) : ORow w B 5 v ((l ++ r).map bV):=by
 unfold ORow
 have e1 : (l ++ r).map bV = l.map bV ++ Lib.byteCells r:=by rw [List.map_append]; rfl
 rw [e1,List.length_append,List.length_map,Lib.byteCells_length,<- hn]
 exact h
theorem row_snoc {w : World} {B : Nat} {v : Value} {l : List UInt8} {b : UInt8} (h : ORow w B 5 v (l.map bV ++ [.int .u8 (b.toNat : Int)])) : ORow w B 5 v ((l ++ [b]).map bV):=by
 have e1 : (l ++ [b]).map bV = l.map bV ++ [.int .u8 (b.toNat : Int)]:=by rw [List.map_append]; rfl
 rw [e1]
 exact h
theorem ret_str {a b : List UInt8} (h : a = b) : Ending.returned (.string ⟨a.toArray⟩) = .returned (.string ⟨b.toArray⟩):=by rw [h]
theorem itoa_len (p : Int) (h : -2147483648 <= p /\ p <= 2147483648) : (Lib.itoa p).length <= 21:=Lib.itoa_length_le p (by omega) (by omega)
set_option maxHeartbeats 1000000 in
theorem form_any (v : Val) (w : World) (hw : StdW w) (hp : -2147483648 <= v.pow /\ v.pow <= 2147483648) (hd : v.digs.length <= 1000) :
 Calls Tryz.prog 177 #[decA v] w fun e w' => e = .returned (.string ⟨(formL v).toArray⟩) /\ Below w.heap.size w w':=by
 obtain ⟨n,D,p⟩:=v
 simp only at hp hd
 obtain ⟨p1,p2⟩:=hp
 have hsz : (⟨D.toArray⟩ : ByteArray).size <= 1000:=by simp [ByteArray.size]; omega
 by_cases h0 : D = []
 ·subst h0
  unfold decA sgI
  simp only
  simp only [if_true]
  go_enter Tryz.func177,Tryz.ntmps177
  go_wp2
  go_ret
  exact ⟨rfl,(Below.refl _ _).alloc (Nat.le_refl _) _⟩
 ·have hS : sgI ⟨n,D,p⟩ = if n then -1 else 1:=by unfold sgI; rw [if_neg h0]
  have hF : formL ⟨n,D,p⟩ = (if n then [45] else []) ++ D ++ tailI p:=by unfold formL; rw [if_neg h0]
  unfold decA
  simp only
  rw [hS,hF]
  clear h0 hS hF
  have HB:=Blk.new w 173 #[.int .i64 (if n then -1 else 1),.string ⟨D.toArray⟩,.int .i64 p]
  have hb0 : Below w.heap.size w (w.alloc (.cells #[.int .i64 (if n then -1 else 1),.string ⟨D.toArray⟩,.int .i64 p] 173)):=(Below.refl _ _).alloc (Nat.le_refl _) _
  have htab:=Lib.tabBelow_of_tabIs (hw.below hb0).pow
  have hnil:=ORow.nil (w.alloc (.cells #[.int .i64 (if n then -1 else 1),.string ⟨D.toArray⟩,.int .i64 p] 173)) (w.heap.size + 1) 5
  rw [show (w.alloc (.cells #[.int .i64 (if n then -1 else 1),.string ⟨D.toArray⟩,.int .i64 p] 173)).heap.size = w.heap.size + 1 from by simp] at htab
  have hsz1 : w.heap.size + 1 <= (w.alloc (.cells #[.int .i64 (if n then -1 else 1),.string ⟨D.toArray⟩,.int .i64 p] 173)).heap.size:=by simp
  have hs0:=hsz1
  cases n
  ·simp only [Bool.false_eq_true,if_false] at *
   by_cases hz : p = 0
   ·have hb : (p != 0) = false:=by simp [hz]
    have hT : tailI p = []:=by unfold tailI; rw [if_pos hz]
    have HT:=Lib.hid hT
    clear hz hT
    go_enter Tryz.func177,Tryz.ntmps177
    go_wp2_with (first
     | (at_builtin; refine wp_appS rfl _ _ 39 9 rfl (w.heap.size + 1) 5 Tryz.underlying39 Tryz.underlying9 Tryz.info5 _ [] rfl (by exact hnil) _ rfl (by simp [maxLen] <;> omega) (by simp <;> omega) hs0 ?_; intro v1 w1 hown1 hc1; have hb1:=hc1; have HB1:=HB.below hb1 (by simp); have d1 : w1.cell? ⟨w.heap.size,2,none⟩ = some (.int .i64 p):=HB1.cell 2; have hs1:=Nat.le_trans hsz1 hb1.size))
    have hstr:=put_str _ hown1
    clear hnil HB
    go_wp2
    first | rw [hstr] | skip
    go_wp2
    go_ret
    refine ⟨ret_str (by simp [HT.out]),hb0.trans (hb1.mono (by simp))⟩
   ·have hb : (p != 0) = true:=by simp [hz]
    have hT : tailI p = 101 :: Lib.itoa p:=by unfold tailI; rw [if_neg hz]
    have HT:=Lib.hid hT
    clear hz hT
    go_enter Tryz.func177,Tryz.ntmps177
    go_wp2_with (first
     | (at_builtin; refine wp_appS rfl _ _ 39 9 rfl (w.heap.size + 1) 5 Tryz.underlying39 Tryz.underlying9 Tryz.info5 _ [] rfl (by exact hnil) _ rfl (by simp [maxLen] <;> omega) (by simp <;> omega) hs0 ?_; intro v1 w1 hown1 hc1; have hb1:=hc1; have HB1:=HB.below hb1 (by simp); have d1 : w1.cell? ⟨w.heap.size,2,none⟩ = some (.int .i64 p):=HB1.cell 2; have hs1:=Nat.le_trans hsz1 hb1.size)
     | (at_builtin; refine wp_app1b rfl _ _ 39 rfl (w.heap.size + 1) 5 (.int .u8 0) 1 Tryz.underlying39 Tryz.info5 rfl _ _ _ rfl (by exact hown1) rfl _ rfl (by simp [maxLen] <;> omega) (by simp <;> omega) hs1 ?_; intro v2 w2 howm2 hc2; have hown2:=row_snoc (b:=101) howm2; have hb2:=(hb1.trans hc2); have HB2:=HB.below hb2 (by simp); have c2 : w2.cell? ⟨w.heap.size,1,none⟩ = some (.string ⟨D.toArray⟩):=HB2.cell 1; have d2 : w2.cell? ⟨w.heap.size,2,none⟩ = some (.int .i64 p):=HB2.cell 2; have hs2:=Nat.le_trans hsz1 hb2.size)
     | (go_at_call 187; refine (Tryz.strconv_AppendInt_10 (w.heap.size + 1) _ p (by omega) (by omega) _ _ _ hown2 hs2 (by simp <;> omega) (htab.on hb2)).mono ?_; rintro e w3 ⟨v3,rfl,howm3,hc3,_⟩; have hown3:=row_cells (by simp) howm3; have hb3:=hb2.trans hc3; have hstr:=put_str _ hown3))
    clear hnil HB
    go_wp2
    first | rw [hstr] | skip
    go_wp2
    go_ret
    refine ⟨ret_str (by simp [HT.out]),hb0.trans (hb3.mono (by simp))⟩
  ·simp only [if_true] at *
   by_cases hz : p = 0
   ·have hb : (p != 0) = false:=by simp [hz]
    have hT : tailI p = []:=by unfold tailI; rw [if_pos hz]
    have HT:=Lib.hid hT
    clear hz hT
    go_enter Tryz.func177,Tryz.ntmps177
    go_wp2_with (first
     | (at_builtin; refine wp_app1g rfl _ _ 39 rfl (w.heap.size + 1) 5 (.int .u8 0) 1 Tryz.underlying39 Tryz.info5 rfl _ _ _ rfl (by exact hnil) rfl _ _ rfl (by simp) (by simp [maxLen] <;> omega) (by simp <;> omega) hs0 ?_; intro v1 w1 howm1 hc1; have hown1:=row_snoc (l:=[]) (b:=45) howm1; have hb1:=hc1; have HB1:=HB.below hb1 (by simp); have c1 : w1.cell? ⟨w.heap.size,1,none⟩ = some (.string ⟨D.toArray⟩):=HB1.cell 1; have d1 : w1.cell? ⟨w.heap.size,2,none⟩ = some (.int .i64 p):=HB1.cell 2; have hs1:=Nat.le_trans hsz1 hb1.size)
     | (at_builtin; refine wp_appS rfl _ _ 39 9 rfl (w.heap.size + 1) 5 Tryz.underlying39 Tryz.underlying9 Tryz.info5 _ ([] ++ [45]) rfl (by exact hown1) _ rfl (by simp [maxLen] <;> omega) (by simp <;> omega) hs1 ?_; intro v2 w2 hown2 hc2; have hb2:=(hb1.trans hc2); have HB2:=HB.below hb2 (by simp); have d2 : w2.cell? ⟨w.heap.size,2,none⟩ = some (.int .i64 p):=HB2.cell 2; have hs2:=Nat.le_trans hsz1 hb2.size))
    have hstr:=put_str _ hown2
    clear hnil HB
    go_wp2
    first | rw [hstr] | skip
    go_wp2
    go_ret
    refine ⟨ret_str (by simp [HT.out]),hb0.trans (hb2.mono (by simp))⟩
   ·have hb : (p != 0) = true:=by simp [hz]
    have hT : tailI p = 101 :: Lib.itoa p:=by unfold tailI; rw [if_neg hz]
    have HT:=Lib.hid hT
    clear hz hT
    go_enter Tryz.func177,Tryz.ntmps177
    go_wp2_with (first
     | (at_builtin; refine wp_app1g rfl _ _ 39 rfl (w.heap.size + 1) 5 (.int .u8 0) 1 Tryz.underlying39 Tryz.info5 rfl _ _ _ rfl (by exact hnil) rfl _ _ rfl (by simp) (by simp [maxLen] <;> omega) (by simp <;> omega) hs0 ?_; intro v1 w1 howm1 hc1; have hown1:=row_snoc (l:=[]) (b:=45) howm1; have hb1:=hc1; have HB1:=HB.below hb1 (by simp); have c1 : w1.cell? ⟨w.heap.size,1,none⟩ = some (.string ⟨D.toArray⟩):=HB1.cell 1; have d1 : w1.cell? ⟨w.heap.size,2,none⟩ = some (.int .i64 p):=HB1.cell 2; have hs1:=Nat.le_trans hsz1 hb1.size)
     | (at_builtin; refine wp_appS rfl _ _ 39 9 rfl (w.heap.size + 1) 5 Tryz.underlying39 Tryz.underlying9 Tryz.info5 _ ([] ++ [45]) rfl (by exact hown1) _ rfl (by simp [maxLen] <;> omega) (by simp <;> omega) hs1 ?_; intro v2 w2 hown2 hc2; have hb2:=(hb1.trans hc2); have HB2:=HB.below hb2 (by simp); have d2 : w2.cell? ⟨w.heap.size,2,none⟩ = some (.int .i64 p):=HB2.cell 2; have hs2:=Nat.le_trans hsz1 hb2.size)
     | (at_builtin; refine wp_app1b rfl _ _ 39 rfl (w.heap.size + 1) 5 (.int .u8 0) 1 Tryz.underlying39 Tryz.info5 rfl _ _ _ rfl (by exact hown2) rfl _ rfl (by simp [maxLen] <;> omega) (by simp <;> omega) hs2 ?_; intro v3 w3 howm3 hc3; have hown3:=row_snoc (b:=101) howm3; have hb3:=(hb2.trans hc3); have HB3:=HB.below hb3 (by simp); have c3 : w3.cell? ⟨w.heap.size,1,none⟩ = some (.string ⟨D.toArray⟩):=HB3.cell 1; have d3 : w3.cell? ⟨w.heap.size,2,none⟩ = some (.int .i64 p):=HB3.cell 2; have hs3:=Nat.le_trans hsz1 hb3.size)
     | (go_at_call 187; refine (Tryz.strconv_AppendInt_10 (w.heap.size + 1) _ p (by omega) (by omega) _ _ _ hown3 hs3 (by simp <;> omega) (htab.on hb3)).mono ?_; rintro e w4 ⟨v4,rfl,howm4,hc4,_⟩; have hown4:=row_cells (by simp) howm4; have hb4:=hb3.trans hc4; have hstr:=put_str _ hown4))
    clear hnil HB
    go_wp2
    first | rw [hstr] | skip
    go_wp2
    go_ret
    refine ⟨ret_str (by simp [HT.out]),hb0.trans (hb4.mono (by simp))⟩
def zeroA : Value:=.agg #[.int .i64 0,.string ⟨#[]⟩,.int .i64 0]
theorem digs_len (l : List UInt8) (e : Int) (h : l.length <= 30) : (valE l e).digs.length <= 30:=by
 have h1:=parts_len l
 have h2:=trimR_len (allD l) 48
 have h3:=trimL_len (rightD l) 48
 have h4 : (allD l).length = (parts l).whole.length + (parts l).part.length:=by unfold allD; simp
 unfold valE
 split
 ·simp
 ·show (digsD l).length <= 30
  unfold digsD
  unfold rightD at h3 ⊢
  omega
set_option maxHeartbeats 1000000 in
theorem parse_no (s : ByteArray) (w : World) (hw : StdW w) (hs : s.size <= 9223372036854775807) (h : readL s.data.toList = none) :
 Calls Tryz.prog 166 #[.string s] w fun e w' => e = .returned (.tuple #[zeroA,.string ⟨#[]⟩,.bool false]) /\ Below w.heap.size w w':=by
 generalize hi : isB s.data.toList = i
 cases i
 ·have HI:=Lib.hid hi
  clear hi h
  go_enter Tryz.func166,Tryz.ntmps166
  go_wp2_with (go_at_call 175; refine (may_any s _ hs).mono ?_; rintro e w1 ⟨rfl,rfl⟩; rw [HI.out])
  refine bodyPost_ret (v:=.tuple #[zeroA,.string ⟨#[]⟩,.bool false]) (by simp [results,Tryz.results166,go_sem,zeroA]) rfl ⟨rfl,?_⟩
  repeat (first | exact Below.refl _ _ | refine Below.setCell ?_ (by simp) _ | refine Below.alloc ?_ (by simp) _)
 ·by_cases h30 : s.size <= 30
  ·have hl : s.data.toList.length <= 30:=by simpa using h30
   have hr:=near_prog hi
   have h2:=(readE_near s.data.toList _ _ hr).trans h
   unfold readE at h2
   rw [if_pos ⟨hi,hl⟩] at h2
   have hok : okV (valE s.data.toList (eprog s.data.toList)) = false:=by
    cases hk : okV (valE s.data.toList (eprog s.data.toList))
    ·rfl
    ·rw [hk,if_pos rfl] at h2; cases h2
   have hdl:=digs_len s.data.toList (eprog s.data.toList) hl
   obtain ⟨v,HV⟩ : ∃ v,valE s.data.toList (eprog s.data.toList) = v:=⟨_,rfl⟩
   rw [HV] at hok hdl
   have hv:=value_any s
   rw [HV] at hv
   unfold decA at hv
   have HI:=Lib.hid hi
   have HVA:=Lib.hid hv
   have hok2:=of_decide_eq_false hok
   have HOK:=Lib.hid hok2
   clear h h2 hr HV hv hok2 hok hi hl
   by_cases p1 : v.pow < -999
   ·go_enter Tryz.func166,Tryz.ntmps166
    go_wp2_with (first
     | (go_at_call 175; refine (may_any s _ hs).mono ?_; rintro e w1 ⟨rfl,rfl⟩; rw [HI.out])
     | (go_at_call 176; refine (HVA.out _ (hw.below ((Below.refl _ _).alloc (Nat.le_refl _) _)) h30 HI.out).mono ?_; rintro e w2 ⟨rfl,hb2⟩; have HR:=(Blk.new w 173 #[.int .i64 0,.string ⟨#[]⟩,.int .i64 0]).below hb2 (by simp); have r0 : w2.cell? ⟨w.heap.size,0,none⟩ = some (.int .i64 0):=HR.cell 0; have r1 : w2.cell? ⟨w.heap.size,1,none⟩ = some (.string ⟨#[]⟩):=HR.cell 1; have r2 : w2.cell? ⟨w.heap.size,2,none⟩ = some (.int .i64 0):=HR.cell 2; have g0:=HR.frozen 0; have g1:=HR.frozen 1; have g2:=HR.frozen 2; have hlt:=HR.lt; have hbl:=((Below.refl w.heap.size w).alloc (Nat.le_refl _) (.cells #[.int .i64 0,.string ⟨#[]⟩,.int .i64 0] 173)).trans (hb2.mono (by simp))))
    have HE:=(((HR.set_ 0 (.int .i64 0)).set_ 1 (.string ⟨#[]⟩)).set_ 2 (.int .i64 0)).alloc (.cells #[.int .i64 (sgI v),.string ⟨v.digs.toArray⟩,.int .i64 v.pow] 173)
    have e0 : _ = some (Value.int .i64 0):=HE.cell 0
    have e1 : _ = some (Value.string ⟨#[]⟩):=HE.cell 1
    have e2 : _ = some (Value.int .i64 0):=HE.cell 2
    refine bodyPost_ret (v:=.tuple #[zeroA,.string ⟨#[]⟩,.bool false]) (by simp [results,Tryz.results166,go_sem,zeroA,e0,e1,e2]) rfl ⟨rfl,?_⟩
    repeat (first | exact hbl | refine Below.setCell ?_ (by simp) _ | refine Below.alloc ?_ (by simp; omega) _)
   ·by_cases p2 : 999 < v.pow
    ·go_enter Tryz.func166,Tryz.ntmps166
     go_wp2_with (first
      | (go_at_call 175; refine (may_any s _ hs).mono ?_; rintro e w1 ⟨rfl,rfl⟩; rw [HI.out])
      | (go_at_call 176; refine (HVA.out _ (hw.below ((Below.refl _ _).alloc (Nat.le_refl _) _)) h30 HI.out).mono ?_; rintro e w2 ⟨rfl,hb2⟩; have HR:=(Blk.new w 173 #[.int .i64 0,.string ⟨#[]⟩,.int .i64 0]).below hb2 (by simp); have r0 : w2.cell? ⟨w.heap.size,0,none⟩ = some (.int .i64 0):=HR.cell 0; have r1 : w2.cell? ⟨w.heap.size,1,none⟩ = some (.string ⟨#[]⟩):=HR.cell 1; have r2 : w2.cell? ⟨w.heap.size,2,none⟩ = some (.int .i64 0):=HR.cell 2; have g0:=HR.frozen 0; have g1:=HR.frozen 1; have g2:=HR.frozen 2; have hlt:=HR.lt; have hbl:=((Below.refl w.heap.size w).alloc (Nat.le_refl _) (.cells #[.int .i64 0,.string ⟨#[]⟩,.int .i64 0] 173)).trans (hb2.mono (by simp))))
     have HE:=(((HR.set_ 0 (.int .i64 0)).set_ 1 (.string ⟨#[]⟩)).set_ 2 (.int .i64 0)).alloc (.cells #[.int .i64 (sgI v),.string ⟨v.digs.toArray⟩,.int .i64 v.pow] 173)
     have e0 : _ = some (Value.int .i64 0):=HE.cell 0
     have e1 : _ = some (Value.string ⟨#[]⟩):=HE.cell 1
     have e2 : _ = some (Value.int .i64 0):=HE.cell 2
     refine bodyPost_ret (v:=.tuple #[zeroA,.string ⟨#[]⟩,.bool false]) (by simp [results,Tryz.results166,go_sem,zeroA,e0,e1,e2]) rfl ⟨rfl,?_⟩
     repeat (first | exact hbl | refine Below.setCell ?_ (by simp) _ | refine Below.alloc ?_ (by simp; omega) _)
    ·have p3 : 30 < (formL v).length:=by have:=HOK.out; omega
     go_enter Tryz.func166,Tryz.ntmps166
     go_wp2_with (first
      | (go_at_call 175; refine (may_any s _ hs).mono ?_; rintro e w1 ⟨rfl,rfl⟩; rw [HI.out])
      | (go_at_call 176; refine (HVA.out _ (hw.below ((Below.refl _ _).alloc (Nat.le_refl _) _)) h30 HI.out).mono ?_; rintro e w2 ⟨rfl,hb2⟩; have HR:=(Blk.new w 173 #[.int .i64 0,.string ⟨#[]⟩,.int .i64 0]).below hb2 (by simp); have r0 : w2.cell? ⟨w.heap.size,0,none⟩ = some (.int .i64 0):=HR.cell 0; have r1 : w2.cell? ⟨w.heap.size,1,none⟩ = some (.string ⟨#[]⟩):=HR.cell 1; have r2 : w2.cell? ⟨w.heap.size,2,none⟩ = some (.int .i64 0):=HR.cell 2; have g0:=HR.frozen 0; have g1:=HR.frozen 1; have g2:=HR.frozen 2; have hlt:=HR.lt; have hbl:=((Below.refl w.heap.size w).alloc (Nat.le_refl _) (.cells #[.int .i64 0,.string ⟨#[]⟩,.int .i64 0] 173)).trans (hb2.mono (by simp)))
      | (go_at_call 177; refine (form_any v _ (hw.below (hbl.alloc (Nat.le_of_lt hlt) _)) ⟨by omega,by omega⟩ (by omega)).mono ?_; rintro e w3 ⟨rfl,hb3⟩; have HR3:=(HR.alloc (.cells #[.int .i64 (sgI v),.string ⟨v.digs.toArray⟩,.int .i64 v.pow] 173)).below hb3 (by simp; omega); have q0 : w3.cell? ⟨w.heap.size,0,none⟩ = some (.int .i64 0):=HR3.cell 0; have q1 : w3.cell? ⟨w.heap.size,1,none⟩ = some (.string ⟨#[]⟩):=HR3.cell 1; have q2 : w3.cell? ⟨w.heap.size,2,none⟩ = some (.int .i64 0):=HR3.cell 2; have k0:=HR3.frozen 0; have k1:=HR3.frozen 1; have k2:=HR3.frozen 2; have hbl3:=(hbl.alloc (Nat.le_of_lt hlt) (.cells #[.int .i64 (sgI v),.string ⟨v.digs.toArray⟩,.int .i64 v.pow] 173)).trans (hb3.mono (by simp; omega))))
     refine bodyPost_ret (v:=.tuple #[zeroA,.string ⟨#[]⟩,.bool false]) (by simp [results,Tryz.results166,go_sem,zeroA,q0,q1,q2]) rfl ⟨rfl,?_⟩
     repeat (first | exact hbl3 | refine Below.setCell ?_ (by simp) _ | refine Below.alloc ?_ (by simp; omega) _)
  ·have HI:=Lib.hid hi
   clear hi h
   go_enter Tryz.func166,Tryz.ntmps166
   go_wp2_with (go_at_call 175; refine (may_any s _ hs).mono ?_; rintro e w1 ⟨rfl,rfl⟩; rw [HI.out])
   refine bodyPost_ret (v:=.tuple #[zeroA,.string ⟨#[]⟩,.bool false]) (by simp [results,Tryz.results166,go_sem,zeroA]) rfl ⟨rfl,?_⟩
   repeat (first | exact Below.refl _ _ | refine Below.setCell ?_ (by simp) _ | refine Below.alloc ?_ (by simp) _)
set_option maxHeartbeats 1000000 in
theorem parse_yes (s : ByteArray) (v : Val) (w : World) (hw : StdW w) (hs : s.size <= 9223372036854775807) (h : readL s.data.toList = some v) :
 Calls Tryz.prog 166 #[.string s] w fun e w' => e = .returned (.tuple #[decA v,.string ⟨(formL v).toArray⟩,.bool true]) /\ Below w.heap.size w w':=by
 have h0:=h
 unfold readL readE at h0
 by_cases hc : isB s.data.toList = true /\ s.data.toList.length <= 30
 ·obtain ⟨hi,hl⟩:=hc
  have h30 : s.size <= 30:=by simpa using hl
  have h2:=(readE_near s.data.toList _ _ (near_prog hi)).trans h
  unfold readE at h2
  rw [if_pos ⟨hi,hl⟩] at h2
  have hk : okV (valE s.data.toList (eprog s.data.toList)) = true:=by
   cases hk : okV (valE s.data.toList (eprog s.data.toList))
   ·rw [hk] at h2; cases h2
   ·rfl
  rw [hk,if_pos rfl] at h2
  injection h2 with HV
  have hdl:=digs_len s.data.toList (eprog s.data.toList) hl
  rw [HV] at hk hdl
  have hv:=value_any s
  rw [HV] at hv
  unfold decA at hv
  have HI:=Lib.hid hi
  have HVA:=Lib.hid hv
  obtain ⟨p1,p2,p3⟩:=of_decide_eq_true hk
  clear h h0 HV hv hk hi hl
  go_enter Tryz.func166,Tryz.ntmps166
  go_wp2_with (first
   | (go_at_call 175; refine (may_any s _ hs).mono ?_; rintro e w1 ⟨rfl,rfl⟩; rw [HI.out])
   | (go_at_call 176; refine (HVA.out _ (hw.below ((Below.refl _ _).alloc (Nat.le_refl _) _)) h30 HI.out).mono ?_; rintro e w2 ⟨rfl,hb2⟩; have HR:=(Blk.new w 173 #[.int .i64 0,.string ⟨#[]⟩,.int .i64 0]).below hb2 (by simp); have r0 : w2.cell? ⟨w.heap.size,0,none⟩ = some (.int .i64 0):=HR.cell 0; have r1 : w2.cell? ⟨w.heap.size,1,none⟩ = some (.string ⟨#[]⟩):=HR.cell 1; have r2 : w2.cell? ⟨w.heap.size,2,none⟩ = some (.int .i64 0):=HR.cell 2; have g0:=HR.frozen 0; have g1:=HR.frozen 1; have g2:=HR.frozen 2; have hlt:=HR.lt; have hbl:=((Below.refl w.heap.size w).alloc (Nat.le_refl _) (.cells #[.int .i64 0,.string ⟨#[]⟩,.int .i64 0] 173)).trans (hb2.mono (by simp)))
   | (go_at_call 177; refine (form_any v _ (hw.below (hbl.alloc (Nat.le_of_lt hlt) _)) ⟨by omega,by omega⟩ (by omega)).mono ?_; rintro e w3 ⟨rfl,hb3⟩; have HR3:=(HR.alloc (.cells #[.int .i64 (sgI v),.string ⟨v.digs.toArray⟩,.int .i64 v.pow] 173)).below hb3 (by simp; omega); have q0 : w3.cell? ⟨w.heap.size,0,none⟩ = some (.int .i64 0):=HR3.cell 0; have q1 : w3.cell? ⟨w.heap.size,1,none⟩ = some (.string ⟨#[]⟩):=HR3.cell 1; have q2 : w3.cell? ⟨w.heap.size,2,none⟩ = some (.int .i64 0):=HR3.cell 2; have k0:=HR3.frozen 0; have k1:=HR3.frozen 1; have k2:=HR3.frozen 2; have HV3:=(Blk.new w2 173 #[.int .i64 (sgI v),.string ⟨v.digs.toArray⟩,.int .i64 v.pow]).below hb3 (by simp); have z0 : w3.cell? ⟨w2.heap.size,0,none⟩ = some (.int .i64 (sgI v)):=HV3.cell 0; have z1 : w3.cell? ⟨w2.heap.size,1,none⟩ = some (.string ⟨v.digs.toArray⟩):=HV3.cell 1; have z2 : w3.cell? ⟨w2.heap.size,2,none⟩ = some (.int .i64 v.pow):=HV3.cell 2; have hbl3:=(hbl.alloc (Nat.le_of_lt hlt) (.cells #[.int .i64 (sgI v),.string ⟨v.digs.toArray⟩,.int .i64 v.pow] 173)).trans (hb3.mono (by simp; omega))))
  refine bodyPost_ret (v:=.tuple #[decA v,.string ⟨(formL v).toArray⟩,.bool true]) (by simp [results,Tryz.results166,go_sem,decA,q0,q1,q2]) rfl ⟨rfl,?_⟩
  repeat (first | exact hbl3 | refine Below.setCell ?_ (by simp) _ | refine Below.alloc ?_ (by simp; omega) _)
 ·rw [if_neg hc] at h0
  cases h0
def readS (l : List UInt8) : ByteArray:=match readL l with | some v => ⟨(formL v).toArray⟩ | none => ⟨#[]⟩
def readC (l : List UInt8) : Int:=match readL l with | some _ => 0 | none => 8
theorem readS_some {l : List UInt8} {v : Val} (h : readL l = some v) : readS l = ⟨(formL v).toArray⟩:=by unfold readS; rw [h]
theorem readC_some {l : List UInt8} {v : Val} (h : readL l = some v) : readC l = 0:=by unfold readC; rw [h]
theorem readS_none {l : List UInt8} (h : readL l = none) : readS l = ⟨#[]⟩:=by unfold readS; rw [h]
theorem readC_none {l : List UInt8} (h : readL l = none) : readC l = 8:=by unfold readC; rw [h]
set_option maxHeartbeats 400000 in
theorem read_any (s : ByteArray) (w : World) (hw : StdW w) (hs : s.size <= 9223372036854775807) :
 Calls Tryz.prog 149 #[.string s] w fun e w' => e = .returned (.tuple #[.string (readS s.data.toList),.int .i64 (readC s.data.toList)]) /\ Below w.heap.size w w':=by
 cases h : readL s.data.toList with
 | none =>
  rw [readS_none h,readC_none h]
  have hp:=parse_no s
  unfold zeroA at hp
  have HP:=Lib.hid hp
  have H:=Lib.hid h
  clear h hp
  go_enter Tryz.func149,Tryz.ntmps149
  go_wp2_with (first
   | (go_at_call 166; refine (HP.out _ hw hs H.out).mono ?_; rintro e w1 ⟨rfl,hb1⟩))
  go_ret2
  refine ⟨rfl,?_⟩
  exact hb1.alloc hb1.size _
 | some v =>
  rw [readS_some h,readC_some h]
  have hp:=parse_yes s v
  unfold decA at hp
  have HP:=Lib.hid hp
  have H:=Lib.hid h
  clear h hp
  go_enter Tryz.func149,Tryz.ntmps149
  go_wp2_with (first
   | (go_at_call 166; refine (HP.out _ hw hs H.out).mono ?_; rintro e w1 ⟨rfl,hb1⟩))
  go_ret2
  refine ⟨rfl,?_⟩
  exact hb1.alloc hb1.size _
theorem okV_of {l : List UInt8} {v : Val} (h : readL l = some v) : -999 <= v.pow /\ v.pow <= 999 /\ (formL v).length <= 30 /\ v.digs.length <= 30:=by
 unfold readL readE at h
 split at h
 ·rename_i hc
  split at h
  ·rename_i hk
   injection h with h
   rw [h] at hk
   have:=of_decide_eq_true hk
   exact ⟨this.1,this.2.1,this.2.2,by rw [<- h]; exact digs_len _ _ hc.2⟩
  ·cases h
 ·cases h
end Go.Proofs.YtbnppjmmlfncmaaGreatDoor.Nm
namespace Go.Proofs.YtbnppjmmlfncmaaGreatDoor
open Go.RowKit
theorem evalid_any (s : ByteArray) (w : World) :
 Calls Tryz.prog 113 #[.string s] w fun e w' => e = .returned (.bool (validL s.data.toList)) /\ Below w.heap.size w w':=by
 have hl : s.data.toList.length = s.size:=by simp
 by_cases h48 : 48 < s.size
 ·have hV : validL s.data.toList = false:=by unfold validL; rw [hl,decide_eq_false (by omega)]; rfl
  rw [hV]
  clear hl hV
  have h48i : (48 : Int) < s.size:=by omega
  go_enter Tryz.func113,Tryz.ntmps113
  go_wp2
  go_ret
  exact ⟨rfl,Below.refl _ _⟩
 ·have hV : validL s.data.toList = (runesL s.data.toList).isSome:=by unfold validL; rw [hl,decide_eq_true (by omega)]; rfl
  rw [hV]
  clear hl hV
  go_enter Tryz.func113,Tryz.ntmps113
  go_wp2_with (first
   | (go_at_call 150; refine (runes_any s _ (by omega)).mono ?_; rintro e w1 ⟨v,rfl,_,hb1⟩))
  go_ret
  exact ⟨rfl,hb1⟩
theorem isValue_any (k : Int) (w : World) :
 Calls Tryz.prog 114 #[.int .i64 k] w fun e w' => e = .returned (.bool (valueK k)) /\ w' = w:=by
 by_cases h : valueK k = true
 ·have h2:=h
  unfold valueK at h2
  rw [decide_eq_true_iff] at h2
  rcases h2 with rfl | rfl | rfl | rfl | rfl | rfl | rfl
  all_goals
   go_enter Tryz.func114,Tryz.ntmps114
   go_wp2
   go_ret
   exact ⟨rfl,rfl⟩
 ·rw [Bool.not_eq_true] at h
  rw [h]
  unfold valueK at h
  rw [decide_eq_false_iff_not] at h
  have d1 : (k == 1) = false:=by rw [beq_eq_false_iff_ne]; omega
  have d2 : (k == 2) = false:=by rw [beq_eq_false_iff_ne]; omega
  have d3 : (k == 3) = false:=by rw [beq_eq_false_iff_ne]; omega
  have d4 : (k == 4) = false:=by rw [beq_eq_false_iff_ne]; omega
  have d5 : (k == 5) = false:=by rw [beq_eq_false_iff_ne]; omega
  have d7 : (k == 7) = false:=by rw [beq_eq_false_iff_ne]; omega
  have d10 : (k == 10) = false:=by rw [beq_eq_false_iff_ne]; omega
  clear h
  go_enter Tryz.func114,Tryz.ntmps114
  go_wp2
  go_ret
  exact ⟨rfl,rfl⟩
theorem read_norm (s : ByteArray) : normL s.data.toList = (decide (Nm.readC s.data.toList = 0) && decide (Nm.readS s.data.toList = s)):=by
 unfold normL
 cases h : Nm.readL s.data.toList with
 | none => rw [Nm.readC_none h]; rfl
 | some v =>
  rw [Nm.readC_some h,Nm.readS_some h]
  simp only [decide_true,Bool.true_and]
  rw [decide_eq_decide]
  constructor
  ·intro e; rw [e]
  ·intro e; have:=congrArg (fun x : ByteArray => x.data.toList) e; simpa using this
theorem str_diff {x y : ByteArray} (h : ¬ x = y) : (x.toList == y.toList) = false /\ ¬ x.toList = y.toList:=by
 have h2 : ¬ x.toList = y.toList:=by
  rw [Lib.toList_data,Lib.toList_data]
  intro e
  exact h (ByteArray.ext (by have:=congrArg List.toArray e; simpa using this))
 exact ⟨by simpa using h2,h2⟩
theorem normal_any (s : ByteArray) (w : World) (hw : Nm.StdW w) (hs : s.size <= 140737488355328) :
 Calls Tryz.prog 112 #[.string s] w fun e w' => e = .returned (.bool (normL s.data.toList)) /\ Below w.heap.size w w':=by
 rw [read_norm]
 have hR:=Nm.read_any s w hw (by omega)
 generalize Nm.readC s.data.toList = c at *
 generalize Nm.readS s.data.toList = f at *
 by_cases hc : c = 0
 ·subst hc
  by_cases hf : f = s
  ·subst hf
   simp only [decide_true,Bool.true_and]
   go_enter Tryz.func112,Tryz.ntmps112
   go_wp2_with (first
    | (go_at_call 149; refine hR.mono ?_; rintro e w1 ⟨rfl,hb1⟩))
   go_ret
   exact ⟨rfl,hb1⟩
  ·obtain ⟨n1,n2⟩:=str_diff hf
   rw [decide_eq_false hf,Bool.and_false]
   clear hf
   go_enter Tryz.func112,Tryz.ntmps112
   go_wp2_with (first
    | (go_at_call 149; refine hR.mono ?_; rintro e w1 ⟨rfl,hb1⟩))
   go_ret
   exact ⟨rfl,hb1⟩
 ·have d : (c == 0) = false:=by rw [beq_eq_false_iff_ne]; exact hc
  rw [decide_eq_false hc,Bool.false_and]
  clear hc
  go_enter Tryz.func112,Tryz.ntmps112
  go_wp2_with (first
   | (go_at_call 149; refine hR.mono ?_; rintro e w1 ⟨rfl,hb1⟩))
  go_ret
  exact ⟨rfl,hb1⟩
theorem cutEnd_ex (l : List UInt8) : ∃ a b : ByteArray,CutEnd l = .returned (.tuple #[.string a,.string b,.bool (fullL l)]):=by
 unfold fullL
 cases h : cutL l with
 | none => exact ⟨_,_,cutEnd_none h⟩
 | some p => exact ⟨_,_,cutEnd_some (a:=p.1) (b:=p.2) h⟩
theorem named_any (b : Nat) (t : ByteArray) (w : World) (hc : w.cell? ⟨b,1,none⟩ = some (.string t)) (hs : t.size <= 140737488355328) :
 Calls Tryz.prog 110 #[.pointer (some ⟨b,0,none⟩)] w fun e w' => e = .returned (.bool (fullL t.data.toList)) /\ Below w.heap.size w w':=by
 obtain ⟨x,y,hE⟩:=cutEnd_ex t.data.toList
 have HE:=Lib.hid hE
 generalize fullL t.data.toList = f at *
 clear hE
 go_enter Tryz.func110,Tryz.ntmps110
 go_wp2_with (first
  | (go_at_call 111; refine (cut_any t _ hs).mono ?_; rintro e w1 ⟨he,hb1⟩; rw [HE.out] at he; subst he))
 go_ret
 exact ⟨rfl,hb1⟩
end Go.Proofs.YtbnppjmmlfncmaaGreatDoor
