/-
  Rows of nodes that a call makes; bare, Copy.
  tree: Copy.
  tree: build and the closure that takes a kid.
  tree: build.
  tree: Build.
  tree: Walk.
  Same: the reference's, the program's (by slices.EqualFunc), and the reference's of lists of events.
  The program's Same, by slices.EqualFunc.
  tree: At; what a place selects.
  The law's own examples: lives (12).
  A node that came in, opened.
  The reference's Cut and Join (hexaplaref04): the same answers.
  The parts of a text, told by places in it.
  The reference's run: its contract.
-/
import Derived.Test.YtbnppjmmlfncmaaGreatDoorCsA08
import Derived.Test.YtbnppjmmlfncmaaGreatDoorCsA09
import Derived.Test.YtbnppjmmlfncmaaGreatDoorCsA06
import Derived.Test.YtbnppjmmlfncmaaGreatDoorCsA14
import Derived.Test.YtbnppjmmlfncmaaGreatDoorCsA15
import Derived.Test.YtbnppjmmlfncmaaGreatDoorCsA03
import Derived.Test.YtbnppjmmlfncmaaGreatDoorCsA11
import Derived.Test.YtbnppjmmlfncmaaGreatDoorCsA04
import Derived.Deep.Slices
import Derived.Deep.Fields
import Derived.SizedLaws
import Derived.OpenShut
import Derived.Test.YtbnppjmmlfncmaaGreatDoorCsA07
import Derived.Deep.QuietTactic
import Derived.BigQuiet
import Derived.Test.YtbnppjmmlfncmaaGreatDoorCsA10
import Derived.Lib.Strings
set_option maxRecDepth 100000
set_option linter.unusedSimpArgs false
namespace Go.Proofs.YtbnppjmmlfncmaaGreatDoor
open Go.RowKit Go.Maps
theorem Tryz.infoNd : (Tryz.prog.info? 24).map (fun i => (i.zero,i.size,i.bytes)) = some (some (.agg #[.int .i64 0,.string ⟨#[]⟩,.string ⟨#[]⟩,.slice none 0 0]),4,64):=by kernel_rfl
def NodeBlk (w : World) (b : Nat) : Prop:=∃ cur,w.heap[b]? = some (.cells cur 24 (0,0))
structure KV where
 n : Nd
 a : Option Addr
 c : Nat
def kvC (q : KV) : List Value:=ndC q.n q.a q.c
def kvCs (l : List KV) : List Value:=l.flatMap kvC
theorem kvCs_len (l : List KV) : (kvCs l).length = l.length * 4:=by
 induction l with
 | nil => rfl
 | cons x l ih => simp only [kvCs,List.flatMap_cons,List.length_append,List.length_cons] at ih ⊢; rw [ih]; simp [kvC,ndC]; omega
theorem kvCs_get : ∀ (l : List KV) (k : Nat) (h : k < l.length) (j : Nat) (_ : j < 4),(kvCs l)[k * 4 + j]? = (kvC l[k])[j]?
 | x :: l,0,_,j,hj => by
  simp only [kvCs,List.flatMap_cons]
  rw [List.getElem?_append_left (by simp [kvC,ndC]; omega)]
  simp
 | x :: l,k + 1,h,j,hj => by
  have ih:=kvCs_get l k (by simpa using h) j hj
  simp only [kvCs,List.flatMap_cons] at ih ⊢
  rw [List.getElem?_append_right (by simp [kvC,ndC]; omega),show (k + 1) * 4 + j - (kvC x).length = k * 4 + j by simp [kvC,ndC]; omega,ih]
  simp
theorem kvCs_snoc (l : List KV) (x : KV) : kvCs (l ++ [x]) = kvCs l ++ kvC x:=by simp [kvCs]
def Fresh (base : Nat) (w : World) (b o : Nat) : Prop:=base <= b /\ o = 0 /\ NodeBlk w b
structure NRow (w : World) (base : Nat) (v : Value) (ks : List KV) : Prop where
 row : w.ownsRow base 24 4 v ks.length (kvCs ks)
 kids : ∀ q ∈ ks,NAt (fun b o => Fresh base w b o /\ some b ≠ v.ownBlock) w q.n q.a q.c
section
variable {w w' : World} {base : Nat} {v v' : Value} {ks : List KV}
theorem cell_lt' {b : Nat} (h : ∃ i u,w.cell? ⟨b,i,none⟩ = some u) : b < w.heap.size:=by obtain ⟨_,_,h⟩:=h; exact cell_lt h
theorem cells_same {b : Nat} (h : w'.heap[b]? = w.heap[b]?) : ∀ i u,w.cell? ⟨b,i,none⟩ = some u -> w'.cell? ⟨b,i,none⟩ = some u:=fun i u hu => by
 rw [<- hu]; unfold World.cell?; rw [h]
theorem NRow.nil (w : World) (base : Nat) : NRow w base (.slice none 0 0) []:=⟨World.ownsRow_nil w base _ 4,fun q hq => (by cases hq)⟩
theorem NRow.below (h : NRow w base v ks) (hb : Below w.heap.size w w') : NRow w' base v ks :=
 ⟨row_tch (base:=base) (p:=fun _ => False) h.row (Tch.of_below hb) (fun _ _ h => h),fun q hq => (h.kids q hq).keep fun b o hs hc =>
  ⟨cells_same (hb.block b (cell_lt' hc)),⟨hs.1.1,hs.1.2.1,by obtain ⟨cur,hh⟩:=hs.1.2.2; exact ⟨cur,by rw [hb.block b (cell_lt' hc)]; exact hh⟩⟩,hs.2⟩⟩
theorem own_step {n : Nd} {A : Option Addr} {c : Nat} (h : NAt (fun b o => Fresh base w b o /\ some b ≠ v.ownBlock) w n A c) (hO : OStep w v w' v') : NAt (fun b o => Fresh base w' b o /\ some b ≠ v'.ownBlock) w' n A c :=
 h.keep fun b o hs hc => by
  have hl:=cell_lt' hc
  have he:=hO.heap hl hs.2
  refine ⟨cells_same he,⟨hs.1.1,hs.1.2.1,?_⟩,fun e => ?_⟩
  ·obtain ⟨cur,hh⟩:=hs.1.2.2
   exact ⟨cur,by rw [he]; exact hh⟩
  ·rcases hO.own with h1 | ⟨g',h1,h2⟩
   ·exact hs.2 (e.trans h1)
   ·rw [h1] at e; injection e with e; omega
theorem NRow.push (h : NRow w base v ks) {q : KV} (hq : NAt (fun b o => Fresh base w b o /\ some b ≠ v.ownBlock) w q.n q.a q.c) (hO : OStep w v w' v') (hr : w'.ownsRow base 24 4 v' (ks.length + 1) (kvCs ks ++ kvC q)) : NRow w' base v' (ks ++ [q]):=by
 refine ⟨by rw [kvCs_snoc,List.length_append]; exact hr,fun q' hq' => ?_⟩
 rcases List.mem_append.1 hq' with hq' | hq'
 ·exact own_step (h.kids q' hq') hO
 ·simp at hq'
  subst hq'
  exact own_step hq hO
theorem Fresh.below {n : Nd} {A : Option Addr} {c : Nat} (h : NAt (Fresh base w) w n A c) (hb : Below w.heap.size w w') : NAt (Fresh base w') w' n A c :=
 h.keep fun b _ hs hc => ⟨cells_same (hb.block b (cell_lt' hc)),hs.1,hs.2.1,by obtain ⟨cur,hh⟩:=hs.2.2; exact ⟨cur,by rw [hb.block b (cell_lt' hc)]; exact hh⟩⟩
theorem NRow.set (h : NRow w base v ks) {p : Addr} (hp : p.block < base) (u : Value) : NRow (w.setCell p u) base v ks :=
 ⟨World.ownsRow.kept h.row (only_setCell (g:=p.block) (World.grownBy.refl w _) (.inl rfl) u) (.inr fun e => by have:=(World.ownsRow.lt h.row p.block e).1; omega),fun q hq => (h.kids q hq).keep fun b _ hs _ => by
  have hh:=Below.heap_setCell w p u b (by have:=hs.1.1; omega)
  exact ⟨cells_same hh,⟨hs.1.1,hs.1.2.1,by obtain ⟨cur,h1⟩:=hs.1.2.2; exact ⟨cur,by rw [hh]; exact h1⟩⟩,hs.2⟩⟩
theorem Fresh.set {n : Nd} {A : Option Addr} {c : Nat} (h : NAt (Fresh base w) w n A c) {p : Addr} (hp : p.block < base) (u : Value) : NAt (Fresh base (w.setCell p u)) (w.setCell p u) n A c :=
 h.keep fun b _ hs _ => by
  have hh:=Below.heap_setCell w p u b (by have:=hs.1; omega)
  exact ⟨cells_same hh,hs.1,hs.2.1,by obtain ⟨cur,h1⟩:=hs.2.2; exact ⟨cur,by rw [hh]; exact h1⟩⟩
theorem Fresh.lower {B : Nat} {n : Nd} {A : Option Addr} {c : Nat} (h : NAt (Fresh B w) w n A c) (hB : base <= B) : NAt (Fresh base w) w n A c:=h.weaken fun _ _ hs => ⟨Nat.le_trans hB hs.1,hs.2⟩
theorem NRow.hold (h : NRow w base v ks) (hh : ∀ i,base <= i -> i < w.heap.size -> w'.heap[i]? = w.heap[i]?) : NRow w' base v ks:=by
 refine ⟨⟨h.row.1,?_⟩,fun q hq => (h.kids q hq).keep fun b _ hs hc => ?_⟩
 ·rcases h.row.2 with hn | ⟨g,cap,cur,hv,hg,hb,r⟩
  ·exact .inl hn
  ·exact .inr ⟨g,cap,cur,hv,hg,by rw [hh g hg (Blk.lt hb)]; exact hb,r⟩
 ·have he:=hh b hs.1.1 (cell_lt' hc)
  exact ⟨cells_same he,⟨hs.1.1,hs.1.2.1,by obtain ⟨cur,h1⟩:=hs.1.2.2; exact ⟨cur,by rw [he]; exact h1⟩⟩,hs.2⟩
theorem Fresh.hold {n : Nd} {A : Option Addr} {c : Nat} (h : NAt (Fresh base w) w n A c) (hh : ∀ i,base <= i -> i < w.heap.size -> w'.heap[i]? = w.heap[i]?) : NAt (Fresh base w') w' n A c :=
 h.keep fun b _ hs hc => by
  have he:=hh b hs.1 (cell_lt' hc)
  exact ⟨cells_same he,hs.1,hs.2.1,by obtain ⟨cur,h1⟩:=hs.2.2; exact ⟨cur,by rw [he]; exact h1⟩⟩
theorem NRow.lt (h : NRow w base v ks) : ∀ g,v.ownBlock = some g -> g < w.heap.size:=fun g hg => (World.ownsRow.lt h.row g hg).2
theorem NRow.shape (h : NRow w base v ks) : ∃ A c,v = .slice A ks.length c:=by
 rcases h.row.2 with ⟨rfl,h0⟩ | ⟨g,cap,cur,rfl,_⟩
 ·exact ⟨_,_,by rw [h0]⟩
 ·exact ⟨_,_,rfl⟩
end
theorem cellsOf4 (w : World) (a b c d : Value) (t : TypeId) : ∀ j u,[a,b,c,d][j]? = some u -> (w.alloc (.cells #[a,b,c,d] t)).cell? ((⟨w.heap.size,0,none⟩ : Addr).add j) = some u:=by
 intro j u h
 rw [addr_add0,(Blk.new w t #[a,b,c,d]).cell j]
 rw [<- h]; simp
section
variable {P : Program} {ops : Array Oper} {Q : Exit -> Act -> World -> Prop} {md : Region.Mode} {S : World -> Prop} {Es : List Nat}
def GStep (P : Program) (md : Region.Mode) (ops : Array Oper) (Q : Exit -> Act -> World -> Prop) (Es : List Nat) (S : World -> Prop) (fuel : Nat) (listed : Array Bool) (a : Act) (w : World) (i : Nat) : Prop :=
 ∃ o,ops[i]? = some o /\ ∀ K' : Act -> World -> Prop,Shut (∀ a w,(i ∉ Es -> S w) -> ((i ∉ Es -> S w) -> wpAnyG P md ops Q Es S fuel (listed.setIfInBounds i true) a w) -> K' a w) -> if Region.wanted o (yielded ops a.tmps) = true then Oper.wp P o a w K' Q else K' (a.put o.dst undef) w
theorem g_all {rs : List Nat} {fuel : Nat} {listed : Array Bool} {a : Act} {w : World} (hr : Region.ready md ops listed = rs) (hne : rs ≠ []) (h : ∀ i ∈ rs,GStep P md ops Q Es S fuel listed a w i) : wpAnyG P md ops Q Es S (fuel + 1) listed a w:=by
 refine ⟨fun h0 => absurd (hr ▸ h0) hne,fun j hj => ?_⟩
 rw [hr] at hj
 obtain ⟨o,ho,h2⟩:=h j hj
 exact wpOp_step ho (fun K' hK => h2 K' (fun a w hS hW => hK a w ⟨hS,hW hS⟩))
end
section
variable {P : Program} {ops : Array Oper} {Q : Exit -> Act -> World -> Prop} {md : Region.Mode} {S : World -> Prop} {Es : List Nat}
end
theorem ERead.tail {w : World} {b o c : Nat} {x : Ev} {xs : List Ev} (h : ERead w (.slice (some ⟨b,o,none⟩) (xs.length + 1) c) (x :: xs)) : ERead w (.slice (some (if c = 1 then ⟨b,o,none⟩ else ⟨b,o + 3,none⟩)) xs.length (c - 1)) xs:=by
 obtain ⟨A,c',hv,h1,h2,h3⟩:=h
 injection hv with e1 e2 e3
 subst e1 e3
 simp only [List.length_cons] at h1
 obtain ⟨b',o',hA,hc⟩:=h3 (by simp)
 injection hA with hA
 injection hA with hb ho
 subst hb ho
 refine ⟨_,_,rfl,by omega,by omega,fun hp => ⟨b,o + 3,by rw [if_neg (by omega)],fun j hj => ?_⟩⟩
 obtain ⟨q0,q1,q2⟩:=hc (j + 1) (by simp; omega)
 simp only [List.getElem_cons_succ] at q0 q1 q2
 rw [show o + 3 + j * 3 = o + (j + 1) * 3 by omega]
 exact ⟨q0,q1,q2⟩
theorem ERead.head {w : World} {v : Value} {x : Ev} {xs : List Ev} (h : ERead w v (x :: xs)) : ∃ b o c,v = .slice (some ⟨b,o,none⟩) (xs.length + 1) c /\ xs.length + 1 <= c /\ c <= maxLen /\ w.cell? ⟨b,o,none⟩ = some (.int .i64 x.k) /\ w.cell? ⟨b,o + 1,none⟩ = some (.string x.t) /\ w.cell? ⟨b,o + 2,none⟩ = some (.string x.v):=by
 obtain ⟨A,c,rfl,h1,h2,h3⟩:=h
 obtain ⟨b,o,rfl,hc⟩:=h3 (by simp)
 obtain ⟨q0,q1,q2⟩:=hc 0 (by simp)
 refine ⟨b,o,c,by simp,by simpa using h1,h2,?_,?_,?_⟩
 ·simpa using q0
 ·simpa using q1
 ·simpa using q2
def ELow (B : Nat) (w : World) (v : Value) (xs : List Ev) : Prop:=ERead w v xs /\ (0 < xs.length -> ∃ b o l c,v = .slice (some ⟨b,o,none⟩) l c /\ b < B)
theorem ELow.hold {B : Nat} {w w' : World} {v : Value} {xs : List Ev} (h : ELow B w v xs) (hh : ∀ i,i < B -> w'.heap[i]? = w.heap[i]?) : ELow B w' v xs:=by
 obtain ⟨⟨A,c,rfl,h1,h2,h3⟩,hl⟩:=h
 refine ⟨⟨A,c,rfl,h1,h2,fun hp => ?_⟩,hl⟩
 obtain ⟨b,o,rfl,hc⟩:=h3 hp
 obtain ⟨b',o',l',c',hv,hb⟩:=hl hp
 injection hv with hv
 injection hv with hv
 injection hv with e1
 subst e1
 have hs:=cells_same (hh b hb)
 exact ⟨b,o,rfl,fun j hj => ⟨hs _ _ (hc j hj).1,hs _ _ (hc j hj).2.1,hs _ _ (hc j hj).2.2⟩⟩
theorem ELow.below {B : Nat} {w w' : World} {v : Value} {xs : List Ev} (h : ELow B w v xs) (hb : Below w.heap.size w w') (hB : B <= w.heap.size) : ELow B w' v xs:=h.hold fun i hi => hb.block i (by omega)
theorem ELow.head {B : Nat} {w : World} {v : Value} {x : Ev} {xs : List Ev} (h : ELow B w v (x :: xs)) : ∃ b o c,v = .slice (some ⟨b,o,none⟩) (xs.length + 1) c /\ xs.length + 1 <= c /\ c <= maxLen /\ w.cell? ⟨b,o,none⟩ = some (.int .i64 x.k) /\ w.cell? ⟨b,o + 1,none⟩ = some (.string x.t) /\ w.cell? ⟨b,o + 2,none⟩ = some (.string x.v) /\
 ELow B w (.slice (some (if c = 1 then ⟨b,o,none⟩ else ⟨b,o + 3,none⟩)) xs.length (c - 1)) xs:=by
 obtain ⟨b,o,c,rfl,h1,h2,q0,q1,q2⟩:=h.1.head
 refine ⟨b,o,c,rfl,h1,h2,q0,q1,q2,ERead.tail h.1,fun hp => ?_⟩
 obtain ⟨b',o',l',c',hv,hb⟩:=h.2 (by simp)
 injection hv with hv
 injection hv with hv
 injection hv with e1
 subst e1
 exact ⟨b,o + 3,_,_,by rw [if_neg (by omega)],hb⟩
def Two (W1 X : World) (nb rb : Nat) : Prop :=
 nb ≠ rb /\ W1.heap.size <= nb /\ W1.heap.size <= rb /\ Blk X nb 24 #[.int .i64 0,.string ⟨#[]⟩,.string ⟨#[]⟩,.slice none 0 0] /\ Blk X rb 36 #[.slice none 0 0] /\ Below W1.heap.size W1 X
section
variable {w w5 : World}
end
theorem shapedL_in : ∀ {l : List Nd} {n : Nd},shapedL l = true -> n ∈ l -> shaped n = true
 | x :: r,n,h,hn => by
  simp only [shapedL,Bool.and_eq_true] at h
  rcases List.mem_cons.1 hn with rfl | hn
  ·exact h.1
  ·exact shapedL_in h.2 hn
structure LoopAt (W1 wr : World) (B m rb nb : Nat) (k ek : Int) (t s : ByteArray) (kids : List Nd) (rest : List Ev) (A1 A2 : Option Addr) (c1 c2 L2 : Nat) (ks : List KV) : Prop where
 len : ks.length <= kids.length
 map : ks.map (·.n) = kids.take ks.length
 row : NRow wr m (.slice A1 ks.length c1) ks
 ev : ELow B wr (.slice A2 L2 c2) (flatL (kids.drop ks.length) ++ endE ek :: rest)
 el : (flatL (kids.drop ks.length) ++ endE ek :: rest).length = L2
 below : Below W1.heap.size W1 wr
 m : m <= wr.heap.size
theorem LoopAt.head {W1 wr : World} {B m rb nb : Nat} {k ek : Int} {t s : ByteArray} {kids : List Nd} {rest : List Ev} {A1 A2 : Option Addr} {c1 c2 L2 : Nat} {ks : List KV} (h : LoopAt W1 wr B m rb nb k ek t s kids rest A1 A2 c1 c2 L2 ks) (hsh : shapedL kids = true) (hek : endsK ek = true) (hlt : ks.length < kids.length) :
 ∃ b o kx x,A2 = some ⟨b,o,none⟩ /\ 0 < L2 /\ wr.cell? ⟨b,o,none⟩ = some (.int .i64 kx) /\ kx ≠ ek /\ x ∈ kids /\ kids.drop ks.length = x :: kids.drop (ks.length + 1) /\ ELow B wr (.slice A2 L2 c2) (flat x ++ (flatL (kids.drop (ks.length + 1)) ++ endE ek :: rest)) /\
  (flatL (kids.drop (ks.length + 1)) ++ endE ek :: rest).length < L2 /\ kids.take (ks.length + 1) = kids.take ks.length ++ [x]:=by
 have hdr : kids.drop ks.length = kids[ks.length] :: kids.drop (ks.length + 1):=List.drop_eq_getElem_cons hlt
 have hm:=List.getElem_mem hlt
 have ht:=List.take_succ_eq_append_getElem hlt
 have hsx:=shapedL_in hsh hm
 have hE:=h.ev
 have hl:=h.el
 rw [hdr] at hE hl
 generalize kids[ks.length] = x at *
 cases x with
 | mk kx tx sx lx =>
  simp only [flatL,List.append_assoc] at hE hl
  simp only [shaped,Bool.and_eq_true] at hsx
  have hh:=hE
  have e0 : flat (.mk kx tx sx lx) ++ (flatL (kids.drop (ks.length + 1)) ++ endE ek :: rest) = ⟨kx,tx,sx⟩ :: (flatL lx ++ endL kx ++ (flatL (kids.drop (ks.length + 1)) ++ endE ek :: rest)):=by simp [flat]
  have hl2:=hl
  rw [e0] at hh hl2
  obtain ⟨b,o,c,hv,_,_,q0,_⟩:=hh.head
  injection hv with e1 e2 e3
  refine ⟨b,o,kx,_,e1,by omega,q0,fun e => ?_,hm,hdr,hE,?_,ht⟩
  ·have:=shape_head hsx.1
   rw [e,hek] at this
   exact absurd this (by decide)
  ·rw [<- hl2]
   simp
   omega
theorem LoopAt.last {W1 wr : World} {B m rb nb : Nat} {k ek : Int} {t s : ByteArray} {kids : List Nd} {rest : List Ev} {A1 A2 : Option Addr} {c1 c2 L2 : Nat} {ks : List KV} (h : LoopAt W1 wr B m rb nb k ek t s kids rest A1 A2 c1 c2 L2 ks) (hlt : ¬ ks.length < kids.length) :
 ks.map (·.n) = kids /\ ∃ b o,A2 = some ⟨b,o,none⟩ /\ L2 = rest.length + 1 /\ L2 <= c2 /\ c2 <= 9223372036854775807 /\ wr.cell? ⟨b,o,none⟩ = some (.int .i64 ek) /\ ELow B wr (.slice (some (if c2 = 1 then ⟨b,o,none⟩ else ⟨b,o + 3,none⟩)) rest.length (c2 - 1)) rest:=by
 have hl:=h.len
 have hE:=h.ev
 rw [List.drop_eq_nil_of_le (by omega)] at hE
 simp only [flatL,List.nil_append] at hE
 obtain ⟨b,o,c,hv,h1,h2,q0,_,_,hT⟩:=hE.head
 injection hv with e1 e2 e3
 subst e3
 refine ⟨by rw [h.map,List.take_of_length_le (by omega)],b,o,e1,e2,by omega,by simpa [maxLen] using h2,q0,hT⟩
open Go.RowKit Go.Maps Go.Shelf
attribute [local go_sem] Oper.semAt_some
open Go.RowKit Go.ChangeShapes Go.WideShapes Go.Deep
mutual
def okW (R : Nat) : Nd -> Prop
 | .mk k t v kids => (-9223372036854775808 <= k /\ k <= 9223372036854775807 /\ t.size <= R /\ v.size <= R) /\ okWL R kids
def okWL (R : Nat) : List Nd -> Prop
 | [] => True
 | n :: r => okW R n /\ okWL R r
end
theorem okWL_mem {R : Nat} : ∀ {l : List Nd},okWL R l ↔ ∀ n ∈ l,okW R n
 | [] => by simp [okWL]
 | n :: r => by simp only [okWL,okWL_mem (l:=r),List.mem_cons,forall_eq_or_imp]
instance : Inhabited Nd:=⟨.mk 0 ⟨#[]⟩ ⟨#[]⟩ []⟩
theorem addr_addW (b o n : Nat) : (⟨b,o,none⟩ : Addr).add n = ⟨b,o + n,none⟩:=by unfold Addr.add; split <;> simp_all
theorem plain_of {s : ByteArray} (h : ¬ 48 < s.size) (hp : s.size = 0 \/ ∃ h0 : 0 < s.size,(s[0].toNat : Int) ≠ 123) : cutL s.data.toList = if localL s.data.toList = true then some ([],s.data.toList) else none:=by
 refine cutL_plain (by simpa using h) ?_
 rcases hp with hp | ⟨h0,hp⟩
 ·rw [List.eq_nil_of_length_eq_zero (l:=s.data.toList) (by simpa using hp)]
  rfl
 ·rw [bytes_cons s h0]
  simp [Lib.hasPrefix,List.isPrefixOf]
  intro hc
  rw [<- hc] at hp
  exact hp rfl
theorem brace_of {s : ByteArray} (h0 : 0 < s.size) (hp : (s[0].toNat : Int) = 123) : s.data.toList = 123 :: s.data.toList.drop 1:=by
 have e:=bytes_cons s h0
 have : s[0] = 123:=UInt8.toNat_inj.1 (by rw [show (123 : UInt8).toNat = 123 from rfl]; omega)
 rw [this] at e
 exact e
def noAt (l : List UInt8) (k : Nat) : Prop:=∀ d ∈ (l.drop 1).take (k - 1),noEnd d = true
theorem no_step {s : ByteArray} {k : Nat} (h1 : 1 <= k) (hlt : k < s.size) (h : noAt s.data.toList k) (hc : (s[k].toNat : Int) ≠ 125) : noAt s.data.toList (k + 1):=by
 unfold noAt at h ⊢
 rw [show k + 1 - 1 = k by omega,bytes_take s k h1 hlt]
 intro d hd
 rcases List.mem_append.1 hd with hd | hd
 ·exact h d hd
 ·rw [List.mem_singleton.1 hd]
  unfold noEnd
  rw [decide_eq_true_iff]
  exact hc
theorem no_hit {s : ByteArray} {k : Nat} (h1 : 1 <= k) (hlt : k < s.size) (h : noAt s.data.toList k) (hc : (s[k].toNat : Int) = 125) : cutAt (s.data.toList.drop 1) = ((s.data.toList.drop 1).take (k - 1),s.data.toList.drop (k + 1),true):=by
 have e1 : s.data.toList.drop k = 125 :: s.data.toList.drop (k + 1):=by
  rw [drop_cons s k hlt]
  have : s[k] = 125:=UInt8.toNat_inj.1 (by rw [show (125 : UInt8).toNat = 125 from rfl]; omega)
  rw [this]
 have e2 : s.data.toList.drop 1 = (s.data.toList.drop 1).take (k - 1) ++ 125 :: s.data.toList.drop (k + 1):=by
  conv => lhs; rw [<- List.take_append_drop (k - 1) (s.data.toList.drop 1)]
  rw [List.drop_drop,show 1 + (k - 1) = k by omega,e1]
 obtain ⟨a1,a2⟩:=span_end (l:=s.data.toList.drop (k + 1)) h
 rw [<- e2] at a1 a2
 unfold cutAt
 rw [a1,a2]
theorem no_end {s : ByteArray} {k : Nat} (hk : s.size <= k) (h : noAt s.data.toList k) : (cutAt (s.data.toList.drop 1)).2.1 = []:=by
 unfold noAt at h
 rw [List.take_of_length_le (by simp; omega)] at h
 have : (s.data.toList.drop 1).dropWhile noEnd = []:=by
  generalize s.data.toList.drop 1 = l at *
  induction l with
  | nil => rfl
  | cons c t ih => rw [List.dropWhile_cons,if_pos (h c List.mem_cons_self)]; exact ih (fun d hd => h d (List.mem_cons_of_mem _ hd))
 unfold cutAt
 rw [this]
theorem extract_mid (s : ByteArray) (k : Nat) : (s.extract 1 k).data.toList = (s.data.toList.drop 1).take (k - 1):=by simp
set_option maxHeartbeats 2000000 in
theorem rcut_any (s : ByteArray) (w : World) (hm : s.size <= 140737488355328) :
 Calls Tryz.prog 156 #[.string s] w fun e w' => e = CutEnd s.data.toList /\ Below w.heap.size w w':=by
 have hl : s.data.toList.length = s.size:=by simp
 have hbel:=Below.refl w.heap.size w
 by_cases h48 : 48 < s.size
 ·rw [cutEnd_none (cutL_long (by omega))]
  clear hl
  go_enter Tryz.func156,Tryz.ntmps156
  go_wp2
  go_ret3
  exact ⟨rfl,hbel⟩
 by_cases h0 : s.size = 0
 ·have hE : CutEnd s.data.toList = .returned (.tuple #[.string ⟨#[]⟩,.string ⟨#[]⟩,.bool false]):=by
   rw [List.eq_nil_of_length_eq_zero (l:=s.data.toList) (by omega)]
   rfl
  rw [hE]
  have hs : s = ⟨#[]⟩:=ByteArray.ext (Array.eq_empty_of_size_eq_zero h0)
  subst hs
  have HF:=Lib.hid (show localL (⟨#[]⟩ : ByteArray).data.toList = false from rfl)
  clear hl hE h0
  go_enter Tryz.func156,Tryz.ntmps156
  go_wp2_with (first
   | (go_at_call 157; refine (rlocal_any _ _ (by omega)).mono ?_; rintro e w' ⟨rfl,rfl⟩; rw [HF.out]))
  go_ret3
  exact ⟨rfl,hbel⟩
 have hp0 : 0 < s.size:=by omega
 by_cases hc : (s[0].toNat : Int) = 123
 ·have hb:=cutL_brace (t:=s.data.toList.drop 1) (by simp; omega)
  rw [<- brace_of hp0 hc] at hb
  have HB:=Lib.hid hb
  clear hb hl
  go_enter Tryz.func156,Tryz.ntmps156
  go_wp2
  go_loop [6] (fun i => ∃ k : Nat,1 <= k /\ k <= s.size /\ i = .int .i64 k /\ Hid (noAt s.data.toList k)) (fun i => s.size - (intOf i).toNat)
  case atStart => exact ⟨1,Nat.le_refl _,by omega,rfl,Lib.hid (fun d hd => by simp at hd)⟩
  case round =>
   obtain ⟨k,hk1,hk,rfl,HK⟩:=hrel
   by_cases hlt : k < s.size
   ·by_cases hq : (s[k].toNat : Int) = 125
    ·have hcut:=no_hit hk1 hlt HK.out hq
     have HB':=HB.out
     rw [hcut] at HB'
     simp only at HB'
     have e1:=extract_mid s k
     have e2:=extract_all s (k + 1)
     rw [<- e1,<- e2] at HB'
     have n1 : (s.extract 1 k).size <= 48:=by simp; omega
     have n2 : (s.extract (k + 1) s.size).size <= 48:=by simp; omega
     have d1 : (1 : Int) <= k:=by omega
     have d2 : (k : Int) <= s.size:=by omega
     have d3 : (k : Int) + 1 <= s.size:=by omega
     have d4 : (0 : Int) <= (k : Int) + 1:=by omega
     clear e1 e2 hcut HB HK
     rcases Bool.eq_false_or_eq_true (spaceL (s.extract 1 k).data.toList) with hs | hs
     case' inl => have HS:=Lib.hid hs
     case' inr => have HS:=Lib.hid hs
     all_goals rcases Bool.eq_false_or_eq_true (localL (s.extract (k + 1) s.size).data.toList) with hf | hf
     all_goals have HF:=Lib.hid hf
     case' inl.inl => rw [if_pos ⟨hs,hf⟩] at HB'
     case' inl.inl => have HC:=Lib.hid (cutEnd_some HB')
     case' inl.inl => rw [str_of,str_of] at HC
     case' inl.inr => rw [if_neg (by rw [hf]; simp)] at HB'
     case' inl.inr => have HC:=Lib.hid (cutEnd_none HB')
     case' inr.inl => rw [if_neg (by rw [hs]; simp)] at HB'
     case' inr.inl => have HC:=Lib.hid (cutEnd_none HB')
     case' inr.inr => rw [if_neg (by rw [hs]; simp)] at HB'
     case' inr.inr => have HC:=Lib.hid (cutEnd_none HB')
     all_goals clear hs hf HB'
     all_goals
      go_wp2_with (first
       | (go_at_call 171; refine (rspace_any _ _ (by omega)).mono ?_; rintro e w' ⟨rfl,hb1⟩; rw [HS.out]; replace hbel:=hbel.trans (hb1.mono hbel.size); clear hb1)
       | (go_at_call 157; refine (rlocal_any _ _ (by omega)).mono ?_; rintro e w' ⟨rfl,rfl⟩; rw [HF.out]))
     all_goals first
      | (go_ret3
         exact ⟨HC.out.symm,hbel⟩)
      | (go_quiet (fail)
         go_wp2
         go_ret3
         exact ⟨HC.out.symm,below_drewN hbel _⟩)
    ·have HS:=Lib.hid (no_step hk1 hlt HK.out hq)
     go_wp2
     go_round
     case rel => exact ⟨k + 1,by omega,by omega,by go_num,HS⟩
     case measure => simp [intOf]; omega
   ·have hne:=no_end (by omega) HK.out
    have HB':=HB.out
    rw [hne,if_neg (by simp [localL])] at HB'
    have HC:=Lib.hid (cutEnd_none HB')
    clear hne HB' HB
    go_wp2
    go_ret3
    exact ⟨HC.out.symm,hbel⟩
 ·have hb:=plain_of h48 (.inr ⟨hp0,hc⟩)
  have hcb : ((s[0].toNat : Int) != 123) = true:=by simpa using hc
  rcases Bool.eq_false_or_eq_true (localL s.data.toList) with hf | hf
  case' inl => rw [hf,if_pos rfl] at hb
  case' inl => rw [cutEnd_some hb]
  case' inr => rw [hf,if_neg (by simp)] at hb
  case' inr => rw [cutEnd_none hb]
  all_goals have HF:=Lib.hid hf
  all_goals clear hf hb hl
  all_goals
   go_enter Tryz.func156,Tryz.ntmps156
   go_wp2_with (first
    | (go_at_call 157; refine (rlocal_any s _ hm).mono ?_; rintro e w' ⟨rfl,rfl⟩; rw [HF.out]))
   go_ret3
   exact ⟨rfl,hbel⟩
end Go.Proofs.YtbnppjmmlfncmaaGreatDoor
namespace Go.Proofs.YtbnppjmmlfncmaaGreatDoor.Nm
def twN (l : List UInt8) : Nat:=(l.takeWhile dig).length
theorem tw_len {l : List UInt8} {m : Nat} (hm : m <= l.length) (h : (l.take m).all dig = true) (hend : ∀ b,l[m]? = some b -> dig b = false) : twN l = m:=by
 unfold twN
 induction l generalizing m with
 | nil => simp at hm; subst hm; rfl
 | cons b l ih =>
  cases m with
  | zero =>
   have:=hend b rfl
   rw [List.takeWhile_cons,this]
   rfl
  | succ m =>
   rw [List.take_succ_cons,List.all_cons,Bool.and_eq_true] at h
   rw [List.takeWhile_cons,h.1,if_pos rfl,List.length_cons,ih (by simpa using hm) h.2 (fun b hb => hend b (by simpa using hb))]
theorem tw_le (l : List UInt8) : twN l <= l.length:=(List.takeWhile_prefix _).sublist.length_le
theorem tw_take (l : List UInt8) : l.takeWhile dig = l.take (twN l):=by
 have h:=List.takeWhile_append_dropWhile (p:=dig) (l:=l)
 have : l.take (twN l) = (l.takeWhile dig ++ l.dropWhile dig).take (twN l):=by rw [h]
 rw [this]
 exact (List.take_left' rfl).symm
theorem tw_drop (l : List UInt8) : l.dropWhile dig = l.drop (twN l):=by
 have h:=List.takeWhile_append_dropWhile (p:=dig) (l:=l)
 have : l.drop (twN l) = (l.takeWhile dig ++ l.dropWhile dig).drop (twN l):=by rw [h]
 rw [this]
 exact (List.drop_left' rfl).symm
theorem tw_all (l : List UInt8) : l.all dig = decide (twN l = l.length):=by
 rw [Bool.eq_iff_iff,decide_eq_true_eq]
 constructor
 ·intro h
  exact tw_len (Nat.le_refl _) (by rw [List.take_length]; exact h) (fun b hb => by rw [List.getElem?_eq_none (Nat.le_refl _)] at hb; cases hb)
 ·intro h
  have:=all_tw l
  rw [tw_take,h,List.take_length] at this
  exact this
def bAt (l : List UInt8) (k : Nat) : Nat:=(l.getD k 0).toNat
theorem drop_at {l : List UInt8} {k : Nat} (h : k < l.length) : ∃ c,l.drop k = c :: l.drop (k + 1) /\ c.toNat = bAt l k:=by
 refine ⟨l[k],List.drop_eq_getElem_cons h,?_⟩
 unfold bAt
 rw [List.getD_eq_getElem?_getD,List.getElem?_eq_getElem h]
 rfl
def off (l : List UInt8) : Nat:=if negL l then 1 else 0
theorem unsigned_off (l : List UInt8) : unsigned l = l.drop (off l):=by
 unfold unsigned off
 split <;> simp
theorem off_one {l : List UInt8} (h : 0 < l.length) (hb : bAt l 0 = 45) : off l = 1:=by
 obtain ⟨c,h1,h2⟩:=drop_at h
 rw [List.drop_zero] at h1
 unfold off
 rw [h1,show negL (c :: l.drop (0 + 1)) = true from decide_eq_true (by omega),if_pos rfl]
theorem off_zero {l : List UInt8} (h : 0 < l.length -> bAt l 0 ≠ 45) : off l = 0:=by
 unfold off
 cases l with
 | nil => rfl
 | cons c l =>
  have:=h (by simp)
  rw [show negL (c :: l) = false from decide_eq_false this]
  rfl
section
variable {l : List UInt8} {a0 n : Nat}
theorem head_at {u : List UInt8} (h : 0 < twN u) : (u.takeWhile dig).head? = some (u.getD 0 0):=by
 cases u with
 | nil => simp [twN] at h
 | cons b u =>
  unfold twN at h
  rw [List.takeWhile_cons] at h ⊢
  cases hb : dig b
  ·rw [hb] at h; simp at h
  ·simp
theorem first_at (hn : twN (l.drop a0) = n) (h0 : 0 < n) : ((l.drop a0).takeWhile dig).head? = some 48 ↔ bAt l a0 = 48:=by
 rw [head_at (by omega)]
 unfold bAt
 have : (l.drop a0).getD 0 0 = l.getD a0 0:=by simp [List.getD_eq_getElem?_getD]
 rw [this]
 constructor
 ·intro h; injection h with h; rw [h]; rfl
 ·intro h; congr 1; exact UInt8.toNat_inj.1 h
theorem parts_U (ha : off l = a0) : parts l = partsU (l.drop a0):=by unfold parts; rw [unsigned_off,ha]
theorem drop_n (hn : twN (l.drop a0) = n) : (l.drop a0).dropWhile dig = l.drop (a0 + n):=by rw [tw_drop,hn,List.drop_drop]
theorem take_n (hn : twN (l.drop a0) = n) : (l.drop a0).takeWhile dig = (l.drop a0).take n:=by rw [tw_take,hn]
theorem take_nil (hn : twN (l.drop a0) = n) : (l.drop a0).takeWhile dig = [] ↔ n = 0:=by
 rw [<- hn]; unfold twN; exact List.length_eq_zero_iff.symm
theorem ne_drop {k : Nat} (h : k < l.length) : l.drop k ≠ []:=by
 intro hc; have:=congrArg List.length hc; simp at this; omega
theorem e_bad0 (ha : off l = a0) (hn : twN (l.drop a0) = n) (h1 : a0 + n < l.length) (h2 : n = 0) : parts l = noParts:=by
 rw [parts_U ha]
 unfold partsU
 rw [drop_n hn,if_pos ⟨ne_drop h1,(take_nil hn).2 h2⟩]
theorem e_bad1 (ha : off l = a0) (hn : twN (l.drop a0) = n) (h1 : 1 < n) (hb : bAt l a0 = 48) : parts l = noParts:=by
 rw [parts_U ha]
 unfold partsU
 rw [if_neg (fun h => by have:=(take_nil hn).1 h.2; omega),if_pos ⟨by have : twN (l.drop a0) = ((l.drop a0).takeWhile dig).length:=rfl; omega,(first_at hn (by omega)).2 hb⟩]
theorem e_W (ha : off l = a0) (hn : twN (l.drop a0) = n) (h1 : a0 + n < l.length -> 0 < n) (h2 : ¬ (1 < n /\ bAt l a0 = 48)) : parts l = partsW ((l.drop a0).take n) (l.drop (a0 + n)):=by
 rw [parts_U ha]
 unfold partsU
 have hl : twN (l.drop a0) = ((l.drop a0).takeWhile dig).length:=rfl
 rw [if_neg (fun h => by
  have:=(take_nil hn).1 h.2
  have : a0 + n < l.length:=by
   rcases Nat.lt_or_ge (a0 + n) l.length with hh | hh
   ·exact hh
   ·exact absurd (by rw [drop_n hn]; exact List.drop_eq_nil_of_le hh) h.1
  have:=h1 this
  omega),if_neg (fun h => h2 ⟨by omega,(first_at hn (by omega)).1 h.2⟩),take_n hn,drop_n hn]
theorem e_end (ha : off l = a0) (hn : twN (l.drop a0) = n) (h1 : a0 + n = l.length) (h2 : ¬ (1 < n /\ bAt l a0 = 48)) : parts l = ⟨(l.drop a0).take n,[],[],true,decide (0 < n)⟩:=by
 rw [e_W ha hn (by omega) h2,h1,List.drop_length]
 unfold partsW
 have : decide ((l.drop a0).take n ≠ []) = decide (0 < n):=by
  rw [<- take_n hn]
  rw [decide_eq_decide,ne_eq,take_nil hn]
  omega
 rw [this]
def AtE (l : List UInt8) (K : Nat) (W F : List UInt8) : Prop:=parts l = partsX W F (l.drop K) /\ K < l.length
theorem e_pt {m K2 : Nat} (ha : off l = a0) (hn : twN (l.drop a0) = n) (h0 : 0 < n) (h2 : ¬ (1 < n /\ bAt l a0 = 48)) (h1 : a0 + n < l.length) (hb : bAt l (a0 + n) = 46) (hm : twN (l.drop (a0 + n + 1)) = m) (hK : K2 = a0 + n + 1 + m) :
 parts l = if K2 < l.length then (if m = 0 then noParts else partsX ((l.drop a0).take n) ((l.drop (a0 + n + 1)).take m) (l.drop K2)) else ⟨(l.drop a0).take n,(l.drop (a0 + n + 1)).take m,[],true,decide (0 < m)⟩:=by
 rw [e_W ha hn (fun _ => h0) h2]
 obtain ⟨c,hd,hc⟩:=drop_at h1
 rw [hd]
 simp only [partsW]
 rw [if_pos (by omega)]
 unfold partsF
 rw [drop_n hm,take_n hm,<- hK]
 have hnil : (l.drop (a0 + n + 1)).take m = [] ↔ m = 0:=by rw [<- take_n hm]; exact take_nil hm
 by_cases h : K2 < l.length
 ·rw [if_pos h,if_neg (ne_drop h)]
  by_cases hz : m = 0
  ·rw [if_pos hz,if_pos (hnil.2 hz)]
  ·rw [if_neg hz,if_neg (fun hc => hz (hnil.1 hc))]
 ·rw [if_neg h,if_pos (List.drop_eq_nil_of_le (by omega))]
  have : decide ((l.drop (a0 + n + 1)).take m ≠ []) = decide (0 < m):=by
   rw [decide_eq_decide,ne_eq,hnil]; omega
  rw [this]
theorem e_pt_end {m : Nat} (ha : off l = a0) (hn : twN (l.drop a0) = n) (h0 : 0 < n) (h2 : ¬ (1 < n /\ bAt l a0 = 48)) (h1 : a0 + n < l.length) (hb : bAt l (a0 + n) = 46) (hm : twN (l.drop (a0 + n + 1)) = m) (h : a0 + n + 1 + m = l.length) :
 parts l = ⟨(l.drop a0).take n,(l.drop (a0 + n + 1)).take m,[],true,decide (0 < m)⟩:=by
 rw [e_pt ha hn h0 h2 h1 hb hm rfl,if_neg (by omega)]
theorem e_pt_bad {m : Nat} (ha : off l = a0) (hn : twN (l.drop a0) = n) (h0 : 0 < n) (h2 : ¬ (1 < n /\ bAt l a0 = 48)) (h1 : a0 + n < l.length) (hb : bAt l (a0 + n) = 46) (hm : twN (l.drop (a0 + n + 1)) = m) (h : a0 + n + 1 + m < l.length) (hz : m = 0) :
 parts l = noParts:=by
 rw [e_pt ha hn h0 h2 h1 hb hm rfl,if_pos (by omega),if_pos hz]
theorem e_pt_go {m : Nat} (ha : off l = a0) (hn : twN (l.drop a0) = n) (h0 : 0 < n) (h2 : ¬ (1 < n /\ bAt l a0 = 48)) (h1 : a0 + n < l.length) (hb : bAt l (a0 + n) = 46) (hm : twN (l.drop (a0 + n + 1)) = m) (h : a0 + n + 1 + m < l.length) (hz : m ≠ 0) :
 AtE l (a0 + n + 1 + m) ((l.drop a0).take n) ((l.drop (a0 + n + 1)).take m):=by
 refine ⟨?_,h⟩
 rw [e_pt ha hn h0 h2 h1 hb hm rfl,if_pos (by omega),if_neg hz]
theorem e_np_go (ha : off l = a0) (hn : twN (l.drop a0) = n) (h0 : 0 < n) (h2 : ¬ (1 < n /\ bAt l a0 = 48)) (h1 : a0 + n < l.length) (hb : bAt l (a0 + n) ≠ 46) :
 AtE l (a0 + n) ((l.drop a0).take n) []:=by
 refine ⟨?_,h1⟩
 rw [e_W ha hn (fun _ => h0) h2]
 obtain ⟨c,hd,hc⟩:=drop_at h1
 rw [hd]
 simp only [partsW]
 rw [if_neg (by omega)]
theorem e_x_no {K : Nat} {W F : List UInt8} (h : AtE l K W F) (h1 : bAt l K ≠ 101) (h2 : bAt l K ≠ 69) : parts l = noParts:=by
 obtain ⟨h,hlt⟩:=h
 obtain ⟨c,hd,hc⟩:=drop_at hlt
 rw [h,hd]
 simp only [partsX]
 rw [if_neg (by rw [isE_iff]; omega)]
theorem sgn_at {k at' : Nat} (h : (at' = k + 1 /\ k < l.length /\ (bAt l k = 43 \/ bAt l k = 45)) \/ (at' = k /\ (l.length <= k \/ (bAt l k ≠ 43 /\ bAt l k ≠ 45)))) : sgn (l.drop k) = l.drop at':=by
 rcases Nat.lt_or_ge k l.length with hlt | hge
 ·obtain ⟨c,hd,hc⟩:=drop_at hlt
  rcases h with ⟨rfl,_,hb⟩ | ⟨rfl,hb⟩
  ·rw [hd]
   unfold sgn
   have : isPM c = true:=by rw [isPM_iff]; omega
   simp only [this,if_true]
  ·have : isPM c = false:=by
    cases hp : isPM c
    ·rfl
    ·rw [isPM_iff] at hp; omega
   rw [hd]
   unfold sgn
   simp only [this]
   rfl
 ·rcases h with ⟨_,hk,_⟩ | ⟨rfl,_⟩
  ·omega
  ·rw [List.drop_eq_nil_of_le hge]; rfl
theorem e_x {K at' q : Nat} {W F : List UInt8} (h : AtE l K W F) (h1 : bAt l K = 101 \/ bAt l K = 69) (hs : sgn (l.drop (K + 1)) = l.drop at') (hq : twN (l.drop at') = q) :
 parts l = if at' + q < l.length then noParts else ⟨W,F,l.drop (K + 1),true,decide (0 < q)⟩:=by
 obtain ⟨h,hlt⟩:=h
 obtain ⟨c,hd,hc⟩:=drop_at hlt
 rw [h,hd]
 simp only [partsX]
 rw [if_pos (by rw [isE_iff]; omega)]
 unfold partsE
 rw [hs,tw_all,hq]
 have hle:=tw_le (l.drop at')
 rw [hq,List.length_drop] at hle
 have e1 : (l.drop at').length = l.length - at':=List.length_drop ..
 by_cases hc : at' + q < l.length
 ·rw [if_pos hc,decide_eq_false (by omega)]
  rfl
 ·rw [if_neg hc,decide_eq_true (by omega),if_pos rfl]
  have : decide (l.drop at' ≠ []) = decide (0 < q):=by
   rw [decide_eq_decide,ne_eq,<- List.length_eq_zero_iff]
   omega
  rw [this]
theorem e_x_bad {K at' q : Nat} {W F : List UInt8} (h : AtE l K W F) (h1 : bAt l K = 101 \/ bAt l K = 69) (hs : sgn (l.drop (K + 1)) = l.drop at') (hq : twN (l.drop at') = q) (hc : at' + q < l.length) : parts l = noParts:=by
 rw [e_x h h1 hs hq,if_pos hc]
theorem e_x_ok {K at' q : Nat} {W F : List UInt8} (h : AtE l K W F) (h1 : bAt l K = 101 \/ bAt l K = 69) (hs : sgn (l.drop (K + 1)) = l.drop at') (hq : twN (l.drop at') = q) (hc : l.length <= at' + q) : parts l = ⟨W,F,l.drop (K + 1),true,decide (0 < q)⟩:=by
 rw [e_x h h1 hs hq,if_neg (by omega)]
end
open Go.RowKit
set_option maxHeartbeats 1000000 in
theorem run_any (s : ByteArray) (k : Nat) (i : Int) (hi : i = (k : Int)) (w : World) (hk : k <= s.size) (hs : s.size <= 140737488355328) :
 Calls Tryz.prog 188 #[.string s,.int .i64 i] w fun e w' => e = .returned (.int .i64 (twN (s.data.toList.drop k))) /\ w = w':=by
 subst hi
 go_enter Tryz.func188,Tryz.ntmps188
 go_wp2
 go_loop [5] (fun n => ∃ m : Nat,n = .int .i64 m /\ k + m <= s.size /\ Hid (((s.data.toList.drop k).take m).all dig = true)) (fun n => s.size - (k + (intOf n).toNat))
 case atStart => exact ⟨0,rfl,by omega,Lib.hid (by simp)⟩
 case round =>
  obtain ⟨m,rfl,hm,HD⟩:=hrel
  by_cases hlt : k + m < s.size
  ·have hidx : (s.data.toList.drop k)[m]? = some s[k + m]:=by
    rw [List.getElem?_drop,List.getElem?_eq_getElem (by simpa using hlt)]
    rfl
   cases hd : dig s[k + m]
   ·have hfin : twN (s.data.toList.drop k) = m:=tw_len (by simp; omega) HD.out (fun b hb => by rw [hidx] at hb; injection hb with hb; rw [<- hb]; exact hd)
    have HF:=Lib.hid hfin
    rw [dig_not] at hd
    have hcase : (s[k + m].toNat : Int) < 48 \/ (48 <= (s[k + m].toNat : Int) /\ 57 < (s[k + m].toNat : Int)):=by omega
    clear hidx hfin hd
    rcases hcase with h | ⟨h,h2⟩
    all_goals
     go_wp2
     go_ret
     exact ⟨ret_int (by rw [HF.out]),rfl⟩
   ·have hr:=dig_range hd
    have h1 : 48 <= (s[k + m].toNat : Int):=by omega
    have h2 : (s[k + m].toNat : Int) <= 57:=by omega
    have hnew : ((s.data.toList.drop k).take (m + 1)).all dig = true:=by
     rw [List.take_add_one,hidx]
     simp only [Option.toList_some,List.all_append,HD.out,List.all_cons,hd]
     rfl
    have HN:=Lib.hid hnew
    clear hidx hd hr hnew
    go_wp2
    go_round
    case rel => exact ⟨m + 1,by go_num,by omega,HN⟩
    case measure => simp [intOf]; omega
  ·have hfin : twN (s.data.toList.drop k) = m:=tw_len (by simp; omega) HD.out (fun b hb => by
    rw [List.getElem?_eq_none (by simp; omega)] at hb; cases hb)
   have HF:=Lib.hid hfin
   clear hfin
   go_wp2
   go_ret
   exact ⟨ret_int (by rw [HF.out]),rfl⟩
end Go.Proofs.YtbnppjmmlfncmaaGreatDoor.Nm
