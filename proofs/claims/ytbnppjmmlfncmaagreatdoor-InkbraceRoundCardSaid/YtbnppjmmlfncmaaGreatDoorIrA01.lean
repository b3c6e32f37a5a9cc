/-
  Memory words: a block that is known whole, worlds in which one block has turned, small laws.
  Rows that the call itself made, of elements of one cell: what append, conversion to a string and reading do with them. Conditions: as each theorem says.
  What a call turns, told by the kind of the objects: every block below a bound, and every block of another kind, lies as it lay.
  No blocks are foreign, unless a text says so.
  A struct that embeds a strings.Builder, as it lies: what the writing methods leave.
-/
import Derived.WalkKit
import Derived.Below
import Derived.Laws.OwnMore
import Derived.Deep.Draws
import Derived.Laws.Rows
import Derived.Deep.OwnRows
import Derived.OwnWalk
import Derived.Maps.AppendAt
import Derived.Laws.BytesString
import Derived.Laws.IdiomStrings
import Derived.Lib.BufferRead
import Derived.Deep.AppendLies
import Derived.Test.YtbnppjmmlfncmaaGreatDoorShelf
import Derived.Shelf.Strings.Builder1
set_option linter.unusedSectionVars false
set_option maxRecDepth 100000
set_option linter.unusedVariables false
namespace Go.Proofs.YtbnppjmmlfncmaaGreatDoor
open Go.RowKit
def Blk (w : World) (g : Nat) (t : TypeId) (cs : Array Value) : Prop:=w.heap[g]? = some (.cells cs t (0,0))
section
variable {w w' : World} {g : Nat} {t : TypeId} {cs : Array Value}
theorem Blk.lt (h : Blk w g t cs) : g < w.heap.size:=by
 rcases Nat.lt_or_ge g w.heap.size with hlt | hge
 ·exact hlt
 ·unfold Blk at h; rw [Array.getElem?_eq_none hge] at h; cases h
theorem Blk.cell (h : Blk w g t cs) (i : Nat) : w.cell? ⟨g,i,none⟩ = cs[i]?:=cell_of_row w g i cs t (0,0) h
theorem Blk.frozen (h : Blk w g t cs) (i : Nat) : w.frozen? ⟨g,i,none⟩ = false:=by
 unfold Blk at h
 simp [World.frozen?,h]
theorem Blk.new (w : World) (t : TypeId) (cs : Array Value) : Blk (w.alloc (.cells cs t)) w.heap.size t cs:=heap_alloc_new w _
theorem Blk.drew (h : Blk w g t cs) : Blk w.drew g t cs:=h
theorem Blk.drewN (h : Blk w g t cs) (n : Nat) : Blk (w.drewN n) g t cs:=h
theorem Blk.alloc (h : Blk w g t cs) (o : Obj) : Blk (w.alloc o) g t cs:=(Below.heap_alloc w o g h.lt).trans h
theorem Blk.set_ (h : Blk w g t cs) (i : Nat) (u : Value) : Blk (w.setCell ⟨g,i,none⟩ u) g t (cs.setIfInBounds i u):=by
 unfold Blk at h ⊢
 simp [World.setCell,Array.getElem?_modify,h]
theorem Blk.far (h : Blk w g t cs) {p : Addr} (hp : g ≠ p.block) (u : Value) : Blk (w.setCell p u) g t cs:=(Below.heap_setCell w p u g hp).trans h
theorem Blk.below {B : Nat} (h : Blk w g t cs) (hb : Below B w w') (hg : g < B) : Blk w' g t cs:=(hb.block g hg).trans h
theorem Blk.grown {row : Option Nat} (h : Blk w g t cs) (hb : w.grownBy w' row) (hg : some g ≠ row) : Blk w' g t cs:=(hb.block g h.lt hg).trans h
end
theorem only_drew {a w : World} {row : Option Nat} (h : a.grownBy w row) : a.grownBy w.drew row:=⟨h.os,h.tape,h.output,h.size,h.block⟩
theorem only_alloc {a w : World} {row : Option Nat} (h : a.grownBy w row) (o : Obj) : a.grownBy (w.alloc o) row :=
 ⟨h.os,h.tape,h.output,Nat.le_trans h.size (by simp),fun i hi hne => (Below.heap_alloc w o i (Nat.lt_of_lt_of_le hi h.size)).trans (h.block i hi hne)⟩
theorem only_setCell {a w : World} {g : Nat} (h : a.grownBy w (some g)) {p : Addr} (hp : p.block = g \/ a.heap.size <= p.block) (u : Value) : a.grownBy (w.setCell p u) (some g) :=
 ⟨h.os,h.tape,h.output,by simpa [World.setCell] using h.size,fun i hi hne => (Below.heap_setCell w p u i (by
  rintro rfl
  rcases hp with hp | hp
  ·exact hne (by rw [hp])
  ·omega)).trans (h.block i hi hne)⟩
theorem only_of_below {a w : World} (h : Below a.heap.size a w) (row : Option Nat) : a.grownBy w row:=⟨h.os,h.tape,h.output,h.size,fun i hi _ => h.block i hi⟩
theorem below_drewN {B : Nat} {a w : World} (h : Below B a w) (n : Nat) : Below B a (w.drewN n):=⟨h.os,h.tape,h.output,h.size,h.block⟩
theorem below_drew {B : Nat} {a w : World} (h : Below B a w) : Below B a w.drew:=⟨h.os,h.tape,h.output,h.size,h.block⟩
theorem below_only {a w w' : World} {B g : Nat} (h : Below B a w) (k : w.grownBy w' (some g)) (hB : B <= w.heap.size) (hg : B <= g) : Below B a w' :=
 ⟨k.os.trans h.os,k.tape.trans h.tape,k.output.trans h.output,Nat.le_trans h.size k.size,fun i hi => (k.block i (by omega) (fun e => by injection e; omega)).trans (h.block i hi)⟩
def ORow (w : World) (base : Nat) (e : TypeId) (v : Value) (xs : List Value) : Prop:=w.ownsRow base e 1 v xs.length xs
section
variable {P : Program} {w w' : World} {base : Nat} {e : TypeId} {v : Value} {xs : List Value}
theorem ORow.nil (w : World) (base : Nat) (e : TypeId) : ORow w base e (.slice none 0 0) []:=World.ownsRow_nil w base e 1
theorem ORow.alloc (h : ORow w base e v xs) (o : Obj) : ORow (w.alloc o) base e v xs:=World.ownsRow.alloc h o
theorem ORow.drew (h : ORow w base e v xs) : ORow w.drew base e v xs:=h
theorem ORow.drewN (h : ORow w base e v xs) (n : Nat) : ORow (w.drewN n) base e v xs:=h
theorem ORow.kept {row : Option Nat} (h : ORow w base e v xs) (hg : w.grownBy w' row) (hne : v.ownBlock = none \/ v.ownBlock ≠ row) : ORow w' base e v xs:=World.ownsRow.kept h hg hne
theorem ORow.mono {b : Nat} (h : ORow w base e v xs) (hb : b <= base) : ORow w b e v xs:=by
 refine ⟨h.1,?_⟩
 rcases h.2 with hn | ⟨g,cap,cur,hv,hg,r⟩
 ·exact .inl hn
 ·exact .inr ⟨g,cap,cur,hv,Nat.le_trans hb hg,r⟩
theorem ORow.below {B : Nat} (h : ORow w base e v xs) (hb : Below B w w') (hB : ∀ g,v.ownBlock = some g -> g < B) : ORow w' base e v xs:=by
 refine ⟨h.1,?_⟩
 rcases h.2 with hn | ⟨g,cap,cur,hv,hg,hh,r⟩
 ·exact .inl hn
 ·refine .inr ⟨g,cap,cur,hv,hg,?_,r⟩
  rw [hb.block g (hB g (by rw [hv]; rfl))]
  exact hh
theorem ORow.form (h : ORow w base e v xs) : (v = .slice none 0 0 /\ xs = []) \/ ∃ g cap,v = .slice (some ⟨g,0,none⟩) xs.length cap /\ base <= g /\ g < w.heap.size /\ xs.length <= cap /\ cap <= maxLen:=by
 rcases h.2 with ⟨hn,h0⟩ | ⟨g,cap,cur,hv,hg,hh,hnc,hm,_⟩
 ·exact .inl ⟨hn,List.eq_nil_of_length_eq_zero h0⟩
 ·exact .inr ⟨g,cap,hv,hg,Blk.lt hh,hnc,hm⟩
theorem ORow.lit (w : World) (base : Nat) (e : TypeId) (cs : Array Value) (hb : base <= w.heap.size) (hm : cs.size <= maxLen) : ORow (w.alloc (.cells cs e)) base e (.slice (some ⟨w.heap.size,0,none⟩) cs.size cs.size) cs.toList:=by
 have:=World.ownsRow_lit (base:=base) (e:=e) (size:=1) w cs cs.size hb hm (by simp)
 simpa [ORow] using this
theorem ORow.shape (h : ORow w base e v xs) : ∃ A cap,v = .slice A xs.length cap:=by
 rcases h.form with ⟨rfl,rfl⟩ | ⟨g,cap,rfl,_⟩
 ·exact ⟨_,_,rfl⟩
 ·exact ⟨_,_,rfl⟩
theorem ORow.cell {A : Option Addr} {n cap : Nat} (h : ORow w base e (.slice A n cap) xs) {k : Nat} (hk : k < xs.length) :
 ∃ g,A = some ⟨g,0,none⟩ /\ base <= g /\ g < w.heap.size /\ w.cell? ⟨g,k,none⟩ = some xs[k]:=by
 rcases h.form with ⟨hv,rfl⟩ | ⟨g,cap',hv,hg,hl,_⟩
 ·simp at hk
 ·injection hv with h1 h2 h3
  subst h1 h2 h3
  refine ⟨g,rfl,hg,hl,?_⟩
  rw [World.ownsRow.cellAt h k (by omega)]
  exact List.getElem?_eq_getElem hk
theorem ORow.block {A : Option Addr} {n cap g : Nat} (h : ORow w base e (.slice A n cap) xs) (hA : A = some ⟨g,0,none⟩) : base <= g /\ g < w.heap.size:=by
 rcases h.form with ⟨hv,rfl⟩ | ⟨g',cap',hv,hg,hl,_⟩
 ·injection hv with h1; rw [hA] at h1; cases h1
 ·injection hv with h1
  rw [hA] at h1
  injection h1 with h1
  injection h1 with h1
  subst h1
  exact ⟨hg,hl⟩
theorem ORow.own_ge (h : ORow w base e v xs) {g : Nat} (hg : v.ownBlock = some g) : base <= g:=(World.ownsRow.lt h g hg).1
theorem ORow.not_own (h : ORow w base e v xs) {g : Nat} (hg : g < base) : some g ≠ v.ownBlock:=fun hc => by have:=h.own_ge hc.symm; omega
theorem ORow.kept_far {g : Nat} (h : ORow w base e v xs) (hg : w.grownBy w' (some g)) (hlt : g < base) : ORow w' base e v xs:=h.kept hg (.inr fun hc => h.not_own hlt hc.symm)
theorem below_row {a : World} {B : Nat} (h : Below B a w) (k : w.grownBy w' v.ownBlock) (hr : ORow w base e v xs) (hB : B <= w.heap.size) (hbase : B <= base) : Below B a w' :=
 ⟨k.os.trans h.os,k.tape.trans h.tape,k.output.trans h.output,Nat.le_trans h.size k.size,fun i hi => (k.block i (by omega) (hr.not_own (by omega))).trans (h.block i hi)⟩
theorem wp_app1 {ops : Array Oper} {rest : List Oper} {o : Oper} {a : Act} {Q : Exit -> Act -> World -> Prop} (hgd : o.guard = none) (s x : Operand) (t : TypeId)
 (ho : o.op = .call { callee:=.builtin .append,args:=#[s,x],argTypes:=#[t,t] })
 (base : Nat) (e : TypeId) (z : Value) (bytes : Nat) (ht : P.underlying t = some (.slice e)) (hinfo : (P.info? e).map (fun i => (i.zero,i.size,i.bytes)) = some (some z,1,bytes)) (hz1 : z.cells.size = 1)
 (v : Value) (xs : List Value) (u : Value) (hs : a.eval s = v) (hown : ORow w base e v xs) (hu : u.oneCell' = true)
 (c : Nat) (hx : a.eval x = .slice (some ⟨w.heap.size,0,none⟩) 1 c)
 (h63 : xs.length + 1 <= maxLen) (hbytes : (xs.length + 1) * bytes <= 140737488355328) (hbase : base <= w.heap.size)
 (h : ∀ v' w',ORow w' base e v' (xs ++ [u]) -> w.grownBy w' v.ownBlock -> (v'.ownBlock = v.ownBlock \/ v'.ownBlock = some (w.heap.size + 1)) -> wpList P ops Q rest (a.put o.dst v') w') :
 wpList P ops Q (o :: rest) a (w.alloc (.cells #[u] e)):=by
 obtain ⟨i,hi,hz,hsize,hby⟩:=info_parts hinfo
 refine wpList_plain hgd fun K hK => ?_
 obtain ⟨v',w',hrun,h2,h3,_,h5⟩:=run_append_own_at (P:=P) (w.alloc (.cells #[u] e)) base t o.type e i z 1 bytes ht hi hz hsize hby hz1 (by decide) v xs.length xs (World.ownsRow.alloc hown _)
  ⟨w.heap.size,0,none⟩ 1 c [u] rfl (cell_one_new w u e) (fun y hy => by simp at hy; subst hy; exact hu) h63 hbytes (by simp; omega)
 unfold Oper.wp execOp
 simp only [ho,resolve,invoke,builtin,Sem.run_bind,Sem.run_pure,Result.andThen_ok,List.map_toArray,List.map_cons,List.map_nil,hs,hx,hrun]
 refine hK _ _ (h v' w' ?_ ?_ ?_)
 ·unfold ORow
  rw [List.length_append]
  exact h2
 ·exact ⟨h3.os,h3.tape,h3.output,Nat.le_trans (by simp) h3.size,fun k hk hne => (h3.block k (by simp; omega) hne).trans (Below.heap_alloc w _ k hk)⟩
 ·simpa using h5
theorem wp_app1b {ops : Array Oper} {rest : List Oper} {o : Oper} {a : Act} {Q : Exit -> Act -> World -> Prop} (hgd : o.guard = none) (s x : Operand) (t : TypeId)
 (ho : o.op = .call { callee:=.builtin .append,args:=#[s,x],argTypes:=#[t,t] })
 (base : Nat) (e : TypeId) (z : Value) (bytes : Nat) (ht : P.underlying t = some (.slice e)) (hinfo : (P.info? e).map (fun i => (i.zero,i.size,i.bytes)) = some (some z,1,bytes)) (hz1 : z.cells.size = 1)
 (v : Value) (xs : List Value) (u : Value) (hs : a.eval s = v) (hown : ORow w base e v xs) (hu : u.oneCell' = true)
 (c : Nat) (hx : a.eval x = .slice (some ⟨w.heap.size,0,none⟩) 1 c)
 (h63 : xs.length + 1 <= maxLen) (hbytes : (xs.length + 1) * bytes <= 140737488355328) (hbase : base <= w.heap.size)
 (h : ∀ v' w',ORow w' base e v' (xs ++ [u]) -> Below base w w' -> wpList P ops Q rest (a.put o.dst v') w') :
 wpList P ops Q (o :: rest) a (w.alloc (.cells #[u] e)):=by
 refine wp_app1 hgd s x t ho base e z bytes ht hinfo hz1 v xs u hs hown hu c hx h63 hbytes hbase fun v' w' h1 h2 _ => h v' w' h1 ?_
 refine ⟨h2.os,h2.tape,h2.output,h2.size,fun k hk => h2.block k (by omega) fun hc => ?_⟩
 have:=World.ownsRow.lt hown k hc.symm
 omega
end
section
variable {P : Program} {w : World}
theorem wp_appNb {ops : Array Oper} {rest : List Oper} {o : Oper} {a : Act} {Q : Exit -> Act -> World -> Prop} (hgd : o.guard = none) (s x : Operand) (t : TypeId)
 (ho : o.op = .call { callee:=.builtin .append,args:=#[s,x],argTypes:=#[t,t] })
 (base : Nat) (e : TypeId) (z : Value) (bytes : Nat) (ht : P.underlying t = some (.slice e)) (hinfo : (P.info? e).map (fun i => (i.zero,i.size,i.bytes)) = some (some z,1,bytes)) (hz1 : z.cells.size = 1)
 (v : Value) (xs : List Value) (C : Array Value) (m : Nat) (hs : a.eval s = v) (hown : ORow w base e v xs) (hu : ∀ u ∈ C.toList,u.oneCell' = true) (hm : C.size = m)
 (c : Nat) (hx : a.eval x = .slice (some ⟨w.heap.size,0,none⟩) m c)
 (h63 : xs.length + m <= maxLen) (hbytes : (xs.length + m) * bytes <= 140737488355328) (hbase : base <= w.heap.size)
 (h : ∀ v' w',ORow w' base e v' (xs ++ C.toList) -> Below base w w' -> wpList P ops Q rest (a.put o.dst v') w') :
 wpList P ops Q (o :: rest) a (w.alloc (.cells C e)):=by
 obtain ⟨i,hi,hz,hsize,hby⟩:=info_parts hinfo
 refine wpList_plain hgd fun K hK => ?_
 have hb0 : (w.alloc (.cells C e)).heap[w.heap.size]? = some (.cells C e (0,0)):=heap_alloc_new w _
 obtain ⟨v',w',hrun,h2,h3,_,h5⟩:=run_append_own_at (P:=P) (w.alloc (.cells C e)) base t o.type e i z 1 bytes ht hi hz hsize hby hz1 (by decide) v xs.length xs (World.ownsRow.alloc hown _)
  ⟨w.heap.size,0,none⟩ m c C.toList (by simp [hm]) (World.news_of_block hb0) hu h63 hbytes (by simp; omega)
 unfold Oper.wp execOp
 simp only [ho,resolve,invoke,builtin,Sem.run_bind,Sem.run_pure,Result.andThen_ok,List.map_toArray,List.map_cons,List.map_nil,hs,hx,hrun]
 refine hK _ _ (h v' w' ?_ ?_)
 ·unfold ORow
  rw [List.length_append,show C.toList.length = m from hm]
  exact h2
 ·refine ⟨h3.os,h3.tape,h3.output,Nat.le_trans (by simp) h3.size,fun k hk => (h3.block k (by simp; omega) fun hc => ?_).trans (Below.heap_alloc w _ k (by omega))⟩
  have:=World.ownsRow.lt hown k hc.symm
  omega
end
def bV (b : UInt8) : Value:=.int .u8 (b.toNat : Int)
def iV (n : Int) : Value:=.int .i64 n
theorem bV_of (n : Int) (h0 : 0 <= n) (h1 : n < 256) : Value.int .u8 n = bV (UInt8.ofNat n.toNat):=by
 unfold bV
 have e1 : (UInt8.ofNat n.toNat).toNat = n.toNat:=UInt8.toNat_ofNat_of_lt' (show n.toNat < 256 by omega)
 rw [e1]
 congr 1
 omega
section
variable {P : Program} {w w' : World} {base : Nat} {e : TypeId} {v : Value}
theorem run_string_of_row (src dst : TypeId) (l : List UInt8) (hs : P.underlying src = some (.slice e)) (he : P.underlying e = some (.int .u8)) (hd : P.underlying dst = some .string) (h : ORow w base e v (l.map bV)) :
 (convert src dst v).run P w = .ok (.string ⟨l.toArray⟩) w:=by
 rcases h.form with ⟨rfl,hn⟩ | ⟨g,cap,hv,_⟩
 ·have : l = []:=by simpa using hn
  subst this
  exact Lib.run_convert_nil_bytes w src dst e 0 hs he hd
 ·subst hv
  simp only [List.length_map]
  refine run_convert_bytes_back w src dst e ⟨g,0,none⟩ cap l hs he hd fun j hj => ?_
  have hj' : j < (l.map bV).length:=by simpa using hj
  obtain ⟨g',hg,_,_,hc⟩:=h.cell hj'
  injection hg with hg
  injection hg with hg
  subst hg
  have e1 : (⟨g,0,none⟩ : Addr).add j = ⟨g,j,none⟩:=by unfold Addr.add; split <;> simp_all
  rw [e1,hc]
  simp [bV]
end
class Fo where
 F : Nat -> Prop
 lim : Nat
 ok : ∀ k,F k -> k < lim
 tk : Option Nat
@[reducible] def Fo.no : Fo:=⟨fun _ => False,0,fun _ h => h.elim,none⟩
@[reducible] def Fo.nt (fo : Fo) : Fo:=⟨fo.F,fo.lim,fo.ok,none⟩
variable [Fo]
def NF (v : Value) : Prop:=∀ g,v.ownBlock = some g -> ¬ Fo.F g
def NB (w : World) (v v' : Value) : Prop:=v'.ownBlock = v.ownBlock \/ ∃ k,v'.ownBlock = some k /\ w.heap.size <= k
theorem nf_new {k : Nat} (h : Fo.lim <= k) : ¬ Fo.F k:=fun hc => by have:=Fo.ok k hc; omega
theorem NF.nil {n c : Nat} : NF (.slice none n c):=fun g h => by cases h
theorem NF.nb {w : World} {v v' : Value} (h : NF v) (hb : NB w v v') (hl : Fo.lim <= w.heap.size) : NF v':=by
 rcases hb with e | ⟨k,e,hk⟩
 ·intro g hg; exact h g (e ▸ hg)
 ·intro g hg
  rw [e] at hg
  injection hg with hg
  subst hg
  exact nf_new (Nat.le_trans hl hk)
theorem NF.slice {g n c m d : Nat} (h : NF (.slice (some ⟨g,0,none⟩) n c)) : NF (.slice (some ⟨g,0,none⟩) m d):=h
structure Tch (base : Nat) (p : Obj -> Prop) (w w' : World) : Prop where
 os : w'.os = w.os
 tape : w'.tape = w.tape
 output : w'.output = w.output
 size : w.heap.size <= w'.heap.size
 block : ∀ k o,w.heap[k]? = some o -> (k < base \/ ¬ p o \/ Fo.F k) -> w'.heap[k]? = some o
section
variable {base : Nat} {p : Obj -> Prop} {w w' w'' : World}
theorem heap_some {k : Nat} (h : k < w.heap.size) : ∃ b,w.heap[k]? = some b:=⟨w.heap[k],Array.getElem?_eq_getElem h⟩
theorem Tch.refl (base : Nat) (p : Obj -> Prop) (w : World) : Tch base p w w:=⟨rfl,rfl,rfl,Nat.le_refl _,fun _ _ h _ => h⟩
theorem Tch.trans (h : Tch base p w w') (k : Tch base p w' w'') : Tch base p w w'' :=
 ⟨k.os.trans h.os,k.tape.trans h.tape,k.output.trans h.output,Nat.le_trans h.size k.size,fun i o ho hc => k.block i o (h.block i o ho hc) hc⟩
theorem Tch.below (h : Tch base p w w') (hb : base <= w.heap.size) : Below base w w' :=
 ⟨h.os,h.tape,h.output,h.size,fun k hk => by
  obtain ⟨o,ho⟩:=heap_some (w:=w) (Nat.lt_of_lt_of_le hk hb)
  rw [h.block k o ho (.inl hk),ho]⟩
theorem Tch.of_below (h : Below w.heap.size w w') : Tch base p w w' :=
 ⟨h.os,h.tape,h.output,h.size,fun k _ ho _ => (h.block k (Array.getElem?_eq_some_iff.1 ho).1).trans ho⟩
theorem Tch.of_grown {g : Nat} {o : Obj} (h : w.grownBy w' (some g)) (hg : base <= g) (hf : ¬ Fo.F g) (ho : w.heap[g]? = some o) (hp : p o) : Tch base p w w' :=
 ⟨h.os,h.tape,h.output,h.size,fun k o' ho' hc => by
  refine (h.block k (Array.getElem?_eq_some_iff.1 ho').1 ?_).trans ho'
  intro e
  injection e with e
  subst e
  rw [ho] at ho'
  injection ho' with ho'
  subst ho'
  rcases hc with hc | hc | hc
  ·omega
  ·exact hc hp
  ·exact hf hc⟩
theorem Tch.of_grown_none (h : w.grownBy w' none) : Tch base p w w' :=
 ⟨h.os,h.tape,h.output,h.size,fun k o' ho' _ => (h.block k (Array.getElem?_eq_some_iff.1 ho').1 (by simp)).trans ho'⟩
theorem Tch.alloc (h : Tch base p w w') (o : Obj) : Tch base p w (w'.alloc o):=h.trans (Tch.of_below ((Below.refl _ _).alloc (Nat.le_refl _) _))
theorem Tch.drewN (h : Tch base p w w') (n : Nat) : Tch base p w (w'.drewN n):=⟨h.os,h.tape,h.output,h.size,h.block⟩
theorem Tch.drew (h : Tch base p w w') : Tch base p w w'.drew:=⟨h.os,h.tape,h.output,h.size,h.block⟩
theorem Tch.set (h : Tch base p w w') {g : Nat} {t : TypeId} {cs : Array Value} (hk : Blk w' g t cs) (hg : base <= g) (hf : ¬ Fo.F g) (hp : p (.cells cs t (0,0))) (i : Nat) (u : Value) : Tch base p w (w'.setCell ⟨g,i,none⟩ u) :=
 h.trans (Tch.of_grown (only_setCell (World.grownBy.refl w' (some g)) (.inl rfl) u) hg hf hk hp)
theorem Blk.tch {g : Nat} {t : TypeId} {cs : Array Value} (h : Blk w g t cs) (ht : Tch base p w w') (hp : g < base \/ ¬ p (.cells cs t (0,0))) : Blk w' g t cs:=ht.block _ _ h (hp.imp id .inl)
theorem row_obj {e : TypeId} {size n : Nat} {v : Value} {xs : List Value} (h : w.ownsRow base e size v n xs) {g : Nat} (hg : v.ownBlock = some g) : ∃ cur,w.heap[g]? = some (.cells cur e (0,0)):=by
 rcases h.2 with ⟨rfl,_⟩ | ⟨g',cap,cur,rfl,_,hh,_⟩
 ·cases hg
 ·cases hg
  exact ⟨cur,hh⟩
theorem row_tch {b : Nat} {e : TypeId} {size n : Nat} {v : Value} {xs : List Value} (h : w.ownsRow b e size v n xs) (ht : Tch base p w w') (hp : ∀ cur fr,¬ p (.cells cur e fr)) : w'.ownsRow b e size v n xs:=by
 refine ⟨h.1,?_⟩
 rcases h.2 with hn | ⟨g,cap,cur,hv,hg,hh,r⟩
 ·exact .inl hn
 ·exact .inr ⟨g,cap,cur,hv,hg,ht.block _ _ hh (.inr (.inl (hp _ _))),r⟩
theorem Tch.of_row {b : Nat} {e : TypeId} {size n : Nat} {v : Value} {xs : List Value} (hr : w.ownsRow b e size v n xs) (h : w.grownBy w' v.ownBlock) (hb : base <= b) (hf : NF v) (hp : ∀ cur,p (.cells cur e (0,0))) : Tch base p w w':=by
 cases hv : v.ownBlock with
 | none => rw [hv] at h; exact Tch.of_grown_none h
 | some g =>
  obtain ⟨cur,hh⟩:=row_obj hr hv
  rw [hv] at h
  exact Tch.of_grown h (Nat.le_trans hb (World.ownsRow.lt hr g hv).1) (hf g hv) hh (hp _)
end
section
variable {P : Program} {w : World}
theorem step_appG {ops : Array Oper} {o : Oper} {a : Act} {K : Act -> World -> Prop} {Q : Exit -> Act -> World -> Prop} {E : Prop} (hgd : o.guard = none) (s x : Operand) (t : TypeId)
 (ho : o.op = .call { callee:=.builtin .append,args:=#[s,x],argTypes:=#[t,t] })
 (base : Nat) (e : TypeId) (z : Value) (size bytes : Nat) (ht : P.underlying t = some (.slice e)) (hinfo : (P.info? e).map (fun i => (i.zero,i.size,i.bytes)) = some (some z,size,bytes)) (hz1 : z.cells.size = size) (hs0 : 0 < size)
 (v : Value) (n : Nat) (xs news : List Value) (hs : a.eval s = v) (hown : w.ownsRow base e size v n xs) (hu : ∀ u ∈ news,u.oneCell' = true)
 (A : Addr) (m c : Nat) (hm : news.length = m * size) (hx : a.eval x = .slice (some A) m c) (hc : ∀ j u,news[j]? = some u -> w.cell? (A.add j) = some u)
 (h63 : n + m <= maxLen) (hbytes : (n + m) * bytes <= 140737488355328) (hbase : base <= w.heap.size)
 (h : ∀ v' w',w'.ownsRow base e size v' (n + m) (xs ++ news) -> w.grownBy w' v.ownBlock -> NB w v v' -> K (a.put o.dst v') w') :
 if Region.wanted o (yielded ops a.tmps) = true then Oper.wp P o a w K Q else E:=by
 have hw : Region.wanted o (yielded ops a.tmps) = true:=by simp [Region.wanted,hgd]
 rw [if_pos hw]
 obtain ⟨i,hi,hz,hsize,hby⟩:=info_parts hinfo
 obtain ⟨v',w',hrun,h2,h3,_,h5⟩:=run_append_own_at (P:=P) w base t o.type e i z size bytes ht hi hz hsize hby hz1 hs0 v n xs hown A m c news hm hc hu h63 hbytes hbase
 unfold Oper.wp execOp
 simp only [ho,resolve,invoke,builtin,Sem.run_bind,Sem.run_pure,Result.andThen_ok,List.map_toArray,List.map_cons,List.map_nil,hs,hx,hrun]
 exact h v' w' h2 h3 (h5.imp id fun e => ⟨_,e,Nat.le_refl _⟩)
end
end Go.Proofs.YtbnppjmmlfncmaaGreatDoor
namespace Go.Proofs.YtbnppjmmlfncmaaGreatDoor
@[reducible] instance foG : Fo:=Fo.no
open Go.RowKit
theorem Tryz.szBuilder : (Tryz.prog.info? 58).map (·.size) = some 2:=by kernel_rfl
theorem Tryz.liesBuilder : liesAt Tryz.prog Tryz.prog.depth 60 (2 / Tryz.prog.cellsOf 60) 0 58 1 = true:=by kernel_rfl
theorem Tryz.infoByteB : (Tryz.prog.info? 5).map (fun i => (i.zero,i.size,i.bytes)) = some (some (.int .u8 0),1,1):=by kernel_rfl
def KeepT (w w' : World) : Prop:=∀ (k : Nat) (cs : Array Value) (t : TypeId) (fr : Nat × Nat),w.heap[k]? = some (Obj.cells cs t fr) -> t ≠ 60 -> t ≠ 5 -> w'.heap[k]? = some (Obj.cells cs t fr)
theorem KeepT.refl (w : World) : KeepT w w:=fun _ _ _ _ h _ _ => h
theorem KeepT.trans {w w1 w2 : World} (h : KeepT w w1) (k : KeepT w1 w2) : KeepT w w2:=fun i cs t fr hi h1 h2 => k i cs t fr (h i cs t fr hi h1 h2) h1 h2
theorem KeepT.of_below {w w' : World} (h : Below w.heap.size w w') : KeepT w w':=fun k cs t fr hk _ _ => (h.block k (by
 rcases Nat.lt_or_ge k w.heap.size with h | h
 ·exact h
 ·rw [Array.getElem?_eq_none h] at hk; cases hk)).trans hk
theorem KeepT.set {w : World} {b : Nat} {cs : Array Value} (hb : Blk w b 60 cs) (p : Addr) (hp : p.block = b) (u : Value) : KeepT w (w.setCell p u):=fun k cs' t fr hk h1 _ => by
 by_cases e : k = b
 ·subst e
  rw [show w.heap[k]? = some (.cells cs 60 (0,0)) from hb] at hk
  injection hk with hk
  injection hk with _ h2
  exact absurd h2.symm h1
 ·exact (Below.heap_setCell w p u k (by rw [hp]; exact e)).trans hk
theorem KeepT.grown {w w' : World} {v : Value} {B n : Nat} {xs : List Value} (hg : w.grownBy w' v.ownBlock) (ho : w.ownsRow B 5 1 v n xs) : KeepT w w':=fun k cs t fr hk _ h2 => by
 have hlt : k < w.heap.size:=by
  rcases Nat.lt_or_ge k w.heap.size with h | h
  ·exact h
  ·rw [Array.getElem?_eq_none h] at hk; cases hk
 refine (hg.block k hlt fun e => ?_).trans hk
 rcases ho.2 with ⟨hv,_⟩ | ⟨g,cap,cur,hv,_,hh,_⟩
 ·rw [hv] at e; cases e
 ·rw [hv] at e
  injection e with e
  subst e
  rw [hk] at hh
  injection hh with hh
  injection hh with _ h3
  exact h2 h3
theorem Blk.keepT {w w' : World} {g : Nat} {t : TypeId} {cs : Array Value} (h : Blk w g t cs) (hk : KeepT w w') (h1 : t ≠ 60) (h2 : t ≠ 5) : Blk w' g t cs:=hk g cs t (0,0) h h1 h2
theorem bcheck_used (b : Nat) (w : World) (h0 : w.cell? ⟨b,0,none⟩ = some (.pointer (some ⟨b,0,none⟩))) :
 Calls Tryz.prog 98 #[.pointer (some ⟨b,0,none⟩)] w fun e w' => e = .returned (.tuple #[]) /\ w' = w:=by
 obtain ⟨j,hj,_⟩:=Option.map_eq_some_iff.1 Tryz.szBuilder
 have hne:=Lib.run_neq_ptr_same (P:=Tryz.prog) w (tp:=56) ⟨b,0,none⟩ Tryz.underlying56 hj
 clear hj
 go_enter Tryz.func98,Tryz.ntmps98
 go_wp2
 try (rw [hne]; go_wp2)
 go_end0
 exact ⟨rfl,rfl⟩
theorem bcheck_fresh (b : Nat) (w : World) (h0 : w.cell? ⟨b,0,none⟩ = some (.pointer none)) (hsh : w.shape? b = some (60,2)) (hfz : w.frozen? ⟨b,0,none⟩ = false) :
 Calls Tryz.prog 98 #[.pointer (some ⟨b,0,none⟩)] w fun e w' => e = .returned (.tuple #[]) /\ w' = w.setCell ⟨b,0,none⟩ (.pointer (some ⟨b,0,none⟩)):=by
 obtain ⟨j,hj,hjs⟩:=Option.map_eq_some_iff.1 Tryz.szBuilder
 have e1:=Lib.run_to_unsafe (P:=Tryz.prog) w ⟨b,0,none⟩ Tryz.underlying56 Tryz.underlying156 hj (by rw [hjs]; decide) hsh (Nat.zero_lt_succ 1)
 have e2:=Lib.run_from_unsafe (P:=Tryz.prog) w ⟨b,0,none⟩ Tryz.underlying156 Tryz.underlying56 hj hsh Tryz.liesBuilder
 clear hj
 go_enter Tryz.func98,Tryz.ntmps98
 go_wp2
 rw [run_callFunc_extern (by exact Tryz.func137) (by kernel_rfl) (by kernel_rfl) (by kernel_rfl) (e:=Extern.AbiNoEscape.same) (by kernel_rfl),Lib.run_noEscape]
 go_wp2
 go_end0
 exact ⟨rfl,rfl⟩
def BldAt (w : World) (B b : Nat) (l : List UInt8) : Prop:=Lib.IsBuilder 60 5 B b (Lib.byteCells l) w
theorem bcheck_any (B b : Nat) (l : List UInt8) (w : World) (h : BldAt w B b l) :
 Calls Tryz.prog 98 #[.pointer (some ⟨b,0,none⟩)] w fun e w' => e = .returned (.tuple #[]) /\ Lib.BuilderAt 60 5 B b (.pointer (some ⟨b,0,none⟩)) (Lib.byteCells l) w' /\ Below B w w' /\ KeepT w w':=by
 rcases h with h | h
 ·refine (bcheck_fresh b w h.cell0 h.shape h.frozen0).mono ?_
  rintro e w' ⟨rfl,rfl⟩
  obtain ⟨hB,v,hb,_⟩:=id h
  exact ⟨rfl,h.used _,(Below.refl B w).setCell (p:=⟨b,0,none⟩) h.1 _,KeepT.set hb _ rfl _⟩
 ·refine (bcheck_used b w h.cell0).mono ?_
  rintro e w' ⟨rfl,rfl⟩
  exact ⟨rfl,h,Below.refl B _,KeepT.refl _⟩
theorem BldAt.lt {w : World} {B b : Nat} {l : List UInt8} (h : BldAt w B b l) : b < w.heap.size:=by
 rcases h with h | h
 ·exact h.lt
 ·exact h.lt
theorem BldAt.new (w : World) (B : Nat) (hB : B <= w.heap.size) : BldAt (w.alloc (.cells #[.pointer none,.slice none 0 0] 60)) B w.heap.size [] :=
 .inl ⟨hB,.slice none 0 0,Blk.new w _ _,World.ownsRow_nil _ _ _ _,by simp [Value.ownBlock]⟩
theorem BldAt.keep {w w' : World} {B b : Nat} {l : List UInt8} (h : BldAt w B b l) (hk : ∀ k o,B <= k -> w.heap[k]? = some o -> (∀ cs fr,o = .cells cs 60 fr \/ o = .cells cs 5 fr -> w'.heap[k]? = some o)) : BldAt w' B b l:=by
 have key : ∀ p,Lib.BuilderAt 60 5 B b p (Lib.byteCells l) w -> Lib.BuilderAt 60 5 B b p (Lib.byteCells l) w':=by
  rintro p ⟨hB,v,hb,ho,hne⟩
  refine ⟨hB,v,hk b _ hB hb _ _ (.inl rfl),⟨ho.1,?_⟩,hne⟩
  rcases ho.2 with hn | ⟨g,cap,cur,hv,hg,hh,r⟩
  ·exact .inl hn
  ·exact .inr ⟨g,cap,cur,hv,hg,hk g _ hg hh _ _ (.inr rfl),r⟩
 exact h.imp (key _) (key _)
theorem byteCells_snoc (l : List UInt8) (c : UInt8) : Lib.byteCells (l ++ [c]) = Lib.byteCells l ++ [.int .u8 (c.toNat : Int)]:=by simp [Lib.byteCells]
set_option maxHeartbeats 2000000 in
theorem bbyte_any (B b : Nat) (l : List UInt8) (c : UInt8) (w : World) (h : BldAt w B b l) (hlen : l.length + 1 <= 140737488355328) (hBw : B <= w.heap.size) :
 Calls Tryz.prog 99 #[.pointer (some ⟨b,0,none⟩),.int .u8 (c.toNat : Int)] w fun e w' => e = .returned .nilIface /\ BldAt w' B b (l ++ [c]) /\ Below B w w' /\ KeepT w w':=by
 have hll : (Lib.byteCells l).length = l.length:=by simp [Lib.byteCells]
 obtain ⟨L,hL⟩ : ∃ L,Lib.byteCells l = L:=⟨_,rfl⟩
 have HN:=Lib.hid (byteCells_snoc l c)
 obtain ⟨i0,hi,hz0,hz1,hz2⟩:=info_parts Tryz.infoByteB
 go_enter Tryz.func99,Tryz.ntmps99
 go_wp2_with (go_at_call 98; refine (bcheck_any B b l _ h).mono ?_)
 rintro e w1 ⟨rfl,h1,hb1,hkt⟩
 rw [hL] at h1 hll
 obtain ⟨hB,v,hbk,hown,hne⟩:=h1
 rw [hll] at hown
 have hk1 : Blk w1 b 60 #[.pointer (some ⟨b,0,none⟩),v]:=hbk
 have c1 : w1.cell? ⟨b,1,none⟩ = some v:=hk1.cell 1
 have hs1:=hb1.size
 go_wp2_with (at_builtin; refine wpList_append_own _ rfl _ _ 39 rfl B 5 i0 (.int .u8 0) 1 1 Tryz.underlying39 hi hz0 hz1 hz2 rfl (by decide) _ _ _ rfl (hown.alloc _) ⟨w1.heap.size,0,none⟩ 1 1 [.int .u8 (c.toNat : Int)] rfl rfl ?c1 ?c2 ?c3 ?c4 ?c5 ?_)
 case c1 =>
  intro j u hj
  match j,hj with
  | 0,hj => simp at hj; subst hj; simp [Addr.add]
 case c2 => intro u hu; simp at hu; subst hu; rfl
 case c3 => unfold maxLen; omega
 case c4 => omega
 case c5 => simp; omega
 intro v' w2 hown' hgrow _
 have hlt:=hk1.lt
 have hk2 : Blk w2 b 60 #[.pointer (some ⟨b,0,none⟩),v]:=(hk1.alloc _).grown hgrow (fun e => hne e.symm)
 have d1 : w2.cell? ⟨b,1,none⟩ = some v:=hk2.cell 1
 have f1:=hk2.frozen 1
 have hlt2:=hk2.lt
 obtain ⟨g,cap,rfl⟩ : ∃ g cap,v' = .slice (some ⟨g,0,none⟩) (l.length + 1) cap:=by
  rcases hown'.2 with ⟨_,h0⟩ | ⟨g,cap,cur,hv,_⟩
  ·omega
  ·exact ⟨g,cap,hv⟩
 go_wp2
 go_ret
 refine ⟨rfl,.inr ?_,?_,?_⟩
 ·have hh:=HN.out
  rw [hL] at hh
  have:=Lib.BuilderAt.put (T:=60) (e:=5) (v':=.slice (some ⟨g,0,none⟩) (l.length + 1) cap) hB hk2 (bs':=Lib.byteCells (l ++ [c])) (by rw [hh]; simpa [hll] using hown') (by decide)
  exact this
 ·exact ((hb1.alloc (by omega) _).grown hgrow (by simp; omega) (fun k hk => (hown.lt k hk).1)).setCell (p:=⟨b,1,none⟩) hB _
 ·exact ((hkt.trans (KeepT.of_below ((Below.refl _ _).alloc (Nat.le_refl _) _))).trans (KeepT.grown hgrow (hown.alloc _))).trans (KeepT.set hk2 _ rfl _)
set_option maxHeartbeats 2000000 in
theorem bstr_any (B b : Nat) (l : List UInt8) (s : ByteArray) (w : World) (h : BldAt w B b l) (hlen : l.length + s.size <= 140737488355328) (hBw : B <= w.heap.size) :
 Calls Tryz.prog 53 #[.pointer (some ⟨b,0,none⟩),.string s] w fun e w' => e = .returned (.tuple #[.int .i64 s.size,.nilIface]) /\ BldAt w' B b (l ++ s.data.toList) /\ Below B w w' /\ KeepT w w':=by
 have hll : (Lib.byteCells l).length = l.length:=by simp [Lib.byteCells]
 obtain ⟨L,hL⟩ : ∃ L,Lib.byteCells l = L:=⟨_,rfl⟩
 have HN:=Lib.hid (show Lib.byteCells (l ++ s.data.toList) = Lib.byteCells l ++ Lib.strCells s by simp [Lib.byteCells,Lib.strCells])
 obtain ⟨i0,hi,hz0,hz1,hz2⟩:=info_parts Tryz.infoByteB
 go_enter Tryz.func53,Tryz.ntmps53
 go_wp2_with (go_at_call 98; refine (bcheck_any B b l _ h).mono ?_)
 rintro e w1 ⟨rfl,h1,hb1,hkt⟩
 rw [hL] at h1 hll
 obtain ⟨hB,v,hbk,hown,hne⟩:=h1
 rw [hll] at hown
 have hk1 : Blk w1 b 60 #[.pointer (some ⟨b,0,none⟩),v]:=hbk
 have c1 : w1.cell? ⟨b,1,none⟩ = some v:=hk1.cell 1
 have hs1:=hb1.size
 go_wp2_with (at_builtin; refine Lib.wpList_append_own_string _ rfl _ _ 39 9 rfl B 5 i0 Tryz.underlying39 Tryz.underlying9 hi hz0 hz1 hz2 _ _ _ rfl hown s rfl ?c3 ?c4 ?c5 ?_)
 case c3 => unfold maxLen; omega
 case c4 => omega
 case c5 => omega
 intro v' w2 hown' hgrow _
 have hlt:=hk1.lt
 have hk2 : Blk w2 b 60 #[.pointer (some ⟨b,0,none⟩),v]:=hk1.grown hgrow (fun e => hne e.symm)
 have d1 : w2.cell? ⟨b,1,none⟩ = some v:=hk2.cell 1
 have f1:=hk2.frozen 1
 have hlt2:=hk2.lt
 obtain ⟨ao,n',cap,rfl⟩ : ∃ ao n' cap,v' = .slice ao n' cap:=by
  rcases hown'.2 with ⟨hv,_⟩ | ⟨g,cap,cur,hv,_⟩
  ·exact ⟨_,_,_,hv⟩
  ·exact ⟨_,_,_,hv⟩
 go_wp2
 go_ret2
 refine ⟨rfl,.inr ?_,?_,?_⟩
 ·have hh:=HN.out
  rw [hL] at hh
  have:=Lib.BuilderAt.put (T:=60) (e:=5) (v':=.slice ao n' cap) hB hk2 (bs':=Lib.byteCells (l ++ s.data.toList)) (by rw [hh]; simpa [hll,Lib.strCells_length] using hown') (by decide)
  exact this
 ·exact (hb1.grown hgrow (by omega) (fun k hk => (hown.lt k hk).1)).setCell (p:=⟨b,1,none⟩) hB _
 ·exact (hkt.trans (KeepT.grown hgrow hown)).trans (KeepT.set hk2 _ rfl _)
end Go.Proofs.YtbnppjmmlfncmaaGreatDoor
