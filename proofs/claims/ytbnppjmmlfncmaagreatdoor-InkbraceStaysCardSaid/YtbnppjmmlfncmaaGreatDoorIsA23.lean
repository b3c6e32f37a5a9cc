/-
  Rows of nodes that a call makes; bare, Copy.
  tree: Copy.
  tree: build and the closure that takes a kid.
  tree: build.
  tree: Build.
  tree: Walk.
  Same: the reference's, the program's (by slices.EqualFunc), and the reference's of lists of events.
  The program's Same, by slices.EqualFunc.
  tree: At; what a place selects.
  The law's own examples: lives (12).
-/
import Derived.Test.YtbnppjmmlfncmaaGreatDoorIsA08
import Derived.Test.YtbnppjmmlfncmaaGreatDoorIsA11
import Derived.Test.YtbnppjmmlfncmaaGreatDoorIsA09
import Derived.Test.YtbnppjmmlfncmaaGreatDoorIsA18
import Derived.Test.YtbnppjmmlfncmaaGreatDoorIsA05
import Derived.Test.YtbnppjmmlfncmaaGreatDoorIsA19
import Derived.Test.YtbnppjmmlfncmaaGreatDoorIsA14
import Derived.Test.YtbnppjmmlfncmaaGreatDoorIsA04
set_option maxRecDepth 100000
set_option linter.unusedSimpArgs false
namespace Go.Proofs.YtbnppjmmlfncmaaGreatDoor
open Go.RowKit Go.Maps
theorem Tryz.infoNd : (Tryz.prog.info? 24).map (fun i => (i.zero,i.size,i.bytes)) = some (some (.agg #[.int .i64 0,.string ⟨#[]⟩,.string ⟨#[]⟩,.slice none 0 0]),4,64):=by kernel_rfl
def NodeBlk (w : World) (b : Nat) : Prop:=∃ cur,w.heap[b]? = some (.cells cur 24 (0,0))
structure KV where
 n : Nd
 a : Option Addr
 c : Nat
def kvC (q : KV) : List Value:=ndC q.n q.a q.c
def kvCs (l : List KV) : List Value:=l.flatMap kvC
theorem kvCs_len (l : List KV) : (kvCs l).length = l.length * 4:=by
 induction l with
 | nil => rfl
 | cons x l ih => simp only [kvCs,List.flatMap_cons,List.length_append,List.length_cons] at ih ⊢; rw [ih]; simp [kvC,ndC]; omega
theorem kvCs_get : ∀ (l : List KV) (k : Nat) (h : k < l.length) (j : Nat) (_ : j < 4),(kvCs l)[k * 4 + j]? = (kvC l[k])[j]?
 | x :: l,0,_,j,hj => by
  simp only [kvCs,List.flatMap_cons]
  rw [List.getElem?_append_left (by simp [kvC,ndC]; omega)]
  simp
 | x :: l,k + 1,h,j,hj => by
  have ih:=kvCs_get l k (by simpa using h) j hj
  simp only [kvCs,List.flatMap_cons] at ih ⊢
  rw [List.getElem?_append_right (by simp [kvC,ndC]; omega),show (k + 1) * 4 + j - (kvC x).length = k * 4 + j by simp [kvC,ndC]; omega,ih]
  simp
theorem kvCs_snoc (l : List KV) (x : KV) : kvCs (l ++ [x]) = kvCs l ++ kvC x:=by simp [kvCs]
def Fresh (base : Nat) (w : World) (b o : Nat) : Prop:=base <= b /\ o = 0 /\ NodeBlk w b
structure NRow (w : World) (base : Nat) (v : Value) (ks : List KV) : Prop where
 row : w.ownsRow base 24 4 v ks.length (kvCs ks)
 kids : ∀ q ∈ ks,NAt (fun b o => Fresh base w b o /\ some b ≠ v.ownBlock) w q.n q.a q.c
section
variable {w w' : World} {base : Nat} {v v' : Value} {ks : List KV}
theorem cell_lt' {b : Nat} (h : ∃ i u,w.cell? ⟨b,i,none⟩ = some u) : b < w.heap.size:=by obtain ⟨_,_,h⟩:=h; exact cell_lt h
theorem cells_same {b : Nat} (h : w'.heap[b]? = w.heap[b]?) : ∀ i u,w.cell? ⟨b,i,none⟩ = some u -> w'.cell? ⟨b,i,none⟩ = some u:=fun i u hu => by
 rw [<- hu]; unfold World.cell?; rw [h]
theorem NRow.nil (w : World) (base : Nat) : NRow w base (.slice none 0 0) []:=⟨World.ownsRow_nil w base _ 4,fun q hq => (by cases hq)⟩
theorem NRow.below (h : NRow w base v ks) (hb : Below w.heap.size w w') : NRow w' base v ks :=
 ⟨row_tch (base:=base) (p:=fun _ => False) h.row (Tch.of_below hb) (fun _ _ h => h),fun q hq => (h.kids q hq).keep fun b o hs hc =>
  ⟨cells_same (hb.block b (cell_lt' hc)),⟨hs.1.1,hs.1.2.1,by obtain ⟨cur,hh⟩:=hs.1.2.2; exact ⟨cur,by rw [hb.block b (cell_lt' hc)]; exact hh⟩⟩,hs.2⟩⟩
theorem own_step {n : Nd} {A : Option Addr} {c : Nat} (h : NAt (fun b o => Fresh base w b o /\ some b ≠ v.ownBlock) w n A c) (hO : OStep w v w' v') : NAt (fun b o => Fresh base w' b o /\ some b ≠ v'.ownBlock) w' n A c :=
 h.keep fun b o hs hc => by
  have hl:=cell_lt' hc
  have he:=hO.heap hl hs.2
  refine ⟨cells_same he,⟨hs.1.1,hs.1.2.1,?_⟩,fun e => ?_⟩
  ·obtain ⟨cur,hh⟩:=hs.1.2.2
   exact ⟨cur,by rw [he]; exact hh⟩
  ·rcases hO.own with h1 | ⟨g',h1,h2⟩
   ·exact hs.2 (e.trans h1)
   ·rw [h1] at e; injection e with e; omega
theorem NRow.push (h : NRow w base v ks) {q : KV} (hq : NAt (fun b o => Fresh base w b o /\ some b ≠ v.ownBlock) w q.n q.a q.c) (hO : OStep w v w' v') (hr : w'.ownsRow base 24 4 v' (ks.length + 1) (kvCs ks ++ kvC q)) : NRow w' base v' (ks ++ [q]):=by
 refine ⟨by rw [kvCs_snoc,List.length_append]; exact hr,fun q' hq' => ?_⟩
 rcases List.mem_append.1 hq' with hq' | hq'
 ·exact own_step (h.kids q' hq') hO
 ·simp at hq'
  subst hq'
  exact own_step hq hO
theorem NRow.node (h : NRow w base v ks) (k : Int) (t s : ByteArray) : ∃ A c,v = .slice A ks.length c /\ NAt (Fresh base w) w (.mk k t s (ks.map (·.n))) A c:=by
 rcases h.row.2 with ⟨rfl,h0⟩ | ⟨g,c,cur,rfl,hg,hh,hnc,hm,hs,ht⟩
 ·have hk : ks = []:=List.eq_nil_of_length_eq_zero h0
  subst hk
  exact ⟨none,0,rfl,NAt.leaf _ _ _ _ _ _⟩
 ·refine ⟨some ⟨g,0,none⟩,c,rfl,?_⟩
  rw [NAt.def_]
  refine ⟨by simp only [Nd.kids,List.length_map]; exact hnc,hm,fun hp => ⟨g,0,rfl,⟨hg,rfl,cur,hh⟩,fun j hj => ?_⟩⟩
  simp only [Nd.kids,List.length_map] at hj
  simp only [Nd.kids,List.getElem_map]
  have hat : ∀ i,i < 4 -> w.cell? ⟨g,j * 4 + i,none⟩ = (kvC ks[j])[i]?:=fun i hi => by
   rw [rowN_cell h.row (by omega)]
   exact kvCs_get ks j hj i hi
  rw [Nat.zero_add]
  exact ⟨ks[j].a,ks[j].c,hat 0 (by omega),hat 1 (by omega),hat 2 (by omega),hat 3 (by omega),(h.kids _ (List.getElem_mem hj)).weaken fun b o hs => hs.1⟩
theorem own_fresh {B : Nat} {n : Nd} {A : Option Addr} {c : Nat} (h : NAt (Fresh B w) w n A c) (hB : base <= B) (hv : ∀ g,v.ownBlock = some g -> g < B) : NAt (fun b o => Fresh base w b o /\ some b ≠ v.ownBlock) w n A c :=
 h.weaken fun b o hs => ⟨⟨Nat.le_trans hB hs.1,hs.2⟩,fun e => by have:=hv b e.symm; have:=hs.1; omega⟩
theorem Fresh.below {n : Nd} {A : Option Addr} {c : Nat} (h : NAt (Fresh base w) w n A c) (hb : Below w.heap.size w w') : NAt (Fresh base w') w' n A c :=
 h.keep fun b _ hs hc => ⟨cells_same (hb.block b (cell_lt' hc)),hs.1,hs.2.1,by obtain ⟨cur,hh⟩:=hs.2.2; exact ⟨cur,by rw [hb.block b (cell_lt' hc)]; exact hh⟩⟩
theorem NRow.set (h : NRow w base v ks) {p : Addr} (hp : p.block < base) (u : Value) : NRow (w.setCell p u) base v ks :=
 ⟨World.ownsRow.kept h.row (only_setCell (g:=p.block) (World.grownBy.refl w _) (.inl rfl) u) (.inr fun e => by have:=(World.ownsRow.lt h.row p.block e).1; omega),fun q hq => (h.kids q hq).keep fun b _ hs _ => by
  have hh:=Below.heap_setCell w p u b (by have:=hs.1.1; omega)
  exact ⟨cells_same hh,⟨hs.1.1,hs.1.2.1,by obtain ⟨cur,h1⟩:=hs.1.2.2; exact ⟨cur,by rw [hh]; exact h1⟩⟩,hs.2⟩⟩
theorem Fresh.set {n : Nd} {A : Option Addr} {c : Nat} (h : NAt (Fresh base w) w n A c) {p : Addr} (hp : p.block < base) (u : Value) : NAt (Fresh base (w.setCell p u)) (w.setCell p u) n A c :=
 h.keep fun b _ hs _ => by
  have hh:=Below.heap_setCell w p u b (by have:=hs.1; omega)
  exact ⟨cells_same hh,hs.1,hs.2.1,by obtain ⟨cur,h1⟩:=hs.2.2; exact ⟨cur,by rw [hh]; exact h1⟩⟩
theorem Fresh.lower {B : Nat} {n : Nd} {A : Option Addr} {c : Nat} (h : NAt (Fresh B w) w n A c) (hB : base <= B) : NAt (Fresh base w) w n A c:=h.weaken fun _ _ hs => ⟨Nat.le_trans hB hs.1,hs.2⟩
theorem NRow.hold (h : NRow w base v ks) (hh : ∀ i,base <= i -> i < w.heap.size -> w'.heap[i]? = w.heap[i]?) : NRow w' base v ks:=by
 refine ⟨⟨h.row.1,?_⟩,fun q hq => (h.kids q hq).keep fun b _ hs hc => ?_⟩
 ·rcases h.row.2 with hn | ⟨g,cap,cur,hv,hg,hb,r⟩
  ·exact .inl hn
  ·exact .inr ⟨g,cap,cur,hv,hg,by rw [hh g hg (Blk.lt hb)]; exact hb,r⟩
 ·have he:=hh b hs.1.1 (cell_lt' hc)
  exact ⟨cells_same he,⟨hs.1.1,hs.1.2.1,by obtain ⟨cur,h1⟩:=hs.1.2.2; exact ⟨cur,by rw [he]; exact h1⟩⟩,hs.2⟩
theorem Fresh.hold {n : Nd} {A : Option Addr} {c : Nat} (h : NAt (Fresh base w) w n A c) (hh : ∀ i,base <= i -> i < w.heap.size -> w'.heap[i]? = w.heap[i]?) : NAt (Fresh base w') w' n A c :=
 h.keep fun b _ hs hc => by
  have he:=hh b hs.1 (cell_lt' hc)
  exact ⟨cells_same he,hs.1,hs.2.1,by obtain ⟨cur,h1⟩:=hs.2.2; exact ⟨cur,by rw [he]; exact h1⟩⟩
theorem NRow.lt (h : NRow w base v ks) : ∀ g,v.ownBlock = some g -> g < w.heap.size:=fun g hg => (World.ownsRow.lt h.row g hg).2
theorem NRow.shape (h : NRow w base v ks) : ∃ A c,v = .slice A ks.length c:=by
 rcases h.row.2 with ⟨rfl,h0⟩ | ⟨g,cap,cur,rfl,_⟩
 ·exact ⟨_,_,by rw [h0]⟩
 ·exact ⟨_,_,rfl⟩
end
theorem NRow.shapeN {w : World} {base : Nat} {v : Value} {ks : List KV} (h : NRow w base v ks) {n : Nat} (hn : ks.length = n) : ∃ A c,v = .slice A n c:=by subst hn; exact h.shape
theorem cellsOf4 (w : World) (a b c d : Value) (t : TypeId) : ∀ j u,[a,b,c,d][j]? = some u -> (w.alloc (.cells #[a,b,c,d] t)).cell? ((⟨w.heap.size,0,none⟩ : Addr).add j) = some u:=by
 intro j u h
 rw [addr_add0,(Blk.new w t #[a,b,c,d]).cell j]
 rw [<- h]; simp
def CPost (n : Nd) (w : World) (e : Ending) (w' : World) : Prop :=
 ∃ A c,e = .returned (.agg #[.int .i64 n.k,.string n.t,.string n.v,.slice A n.kids.length c]) /\ NAt (Fresh w.heap.size w') w' n A c /\ Below w.heap.size w w'
section
variable {P : Program} {ops : Array Oper} {Q : Exit -> Act -> World -> Prop} {md : Region.Mode} {S : World -> Prop} {Es : List Nat}
end
section
variable {P : Program} {ops : Array Oper} {Q : Exit -> Act -> World -> Prop} {md : Region.Mode} {S : World -> Prop} {Es : List Nat}
end
theorem ERead.tail {w : World} {b o c : Nat} {x : Ev} {xs : List Ev} (h : ERead w (.slice (some ⟨b,o,none⟩) (xs.length + 1) c) (x :: xs)) : ERead w (.slice (some (if c = 1 then ⟨b,o,none⟩ else ⟨b,o + 3,none⟩)) xs.length (c - 1)) xs:=by
 obtain ⟨A,c',hv,h1,h2,h3⟩:=h
 injection hv with e1 e2 e3
 subst e1 e3
 simp only [List.length_cons] at h1
 obtain ⟨b',o',hA,hc⟩:=h3 (by simp)
 injection hA with hA
 injection hA with hb ho
 subst hb ho
 refine ⟨_,_,rfl,by omega,by omega,fun hp => ⟨b,o + 3,by rw [if_neg (by omega)],fun j hj => ?_⟩⟩
 obtain ⟨q0,q1,q2⟩:=hc (j + 1) (by simp; omega)
 simp only [List.getElem_cons_succ] at q0 q1 q2
 rw [show o + 3 + j * 3 = o + (j + 1) * 3 by omega]
 exact ⟨q0,q1,q2⟩
theorem ERead.head {w : World} {v : Value} {x : Ev} {xs : List Ev} (h : ERead w v (x :: xs)) : ∃ b o c,v = .slice (some ⟨b,o,none⟩) (xs.length + 1) c /\ xs.length + 1 <= c /\ c <= maxLen /\ w.cell? ⟨b,o,none⟩ = some (.int .i64 x.k) /\ w.cell? ⟨b,o + 1,none⟩ = some (.string x.t) /\ w.cell? ⟨b,o + 2,none⟩ = some (.string x.v):=by
 obtain ⟨A,c,rfl,h1,h2,h3⟩:=h
 obtain ⟨b,o,rfl,hc⟩:=h3 (by simp)
 obtain ⟨q0,q1,q2⟩:=hc 0 (by simp)
 refine ⟨b,o,c,by simp,by simpa using h1,h2,?_,?_,?_⟩
 ·simpa using q0
 ·simpa using q1
 ·simpa using q2
def ELow (B : Nat) (w : World) (v : Value) (xs : List Ev) : Prop:=ERead w v xs /\ (0 < xs.length -> ∃ b o l c,v = .slice (some ⟨b,o,none⟩) l c /\ b < B)
theorem ELow.hold {B : Nat} {w w' : World} {v : Value} {xs : List Ev} (h : ELow B w v xs) (hh : ∀ i,i < B -> w'.heap[i]? = w.heap[i]?) : ELow B w' v xs:=by
 obtain ⟨⟨A,c,rfl,h1,h2,h3⟩,hl⟩:=h
 refine ⟨⟨A,c,rfl,h1,h2,fun hp => ?_⟩,hl⟩
 obtain ⟨b,o,rfl,hc⟩:=h3 hp
 obtain ⟨b',o',l',c',hv,hb⟩:=hl hp
 injection hv with hv
 injection hv with hv
 injection hv with e1
 subst e1
 have hs:=cells_same (hh b hb)
 exact ⟨b,o,rfl,fun j hj => ⟨hs _ _ (hc j hj).1,hs _ _ (hc j hj).2.1,hs _ _ (hc j hj).2.2⟩⟩
theorem ELow.below {B : Nat} {w w' : World} {v : Value} {xs : List Ev} (h : ELow B w v xs) (hb : Below w.heap.size w w') (hB : B <= w.heap.size) : ELow B w' v xs:=h.hold fun i hi => hb.block i (by omega)
theorem ELow.head {B : Nat} {w : World} {v : Value} {x : Ev} {xs : List Ev} (h : ELow B w v (x :: xs)) : ∃ b o c,v = .slice (some ⟨b,o,none⟩) (xs.length + 1) c /\ xs.length + 1 <= c /\ c <= maxLen /\ w.cell? ⟨b,o,none⟩ = some (.int .i64 x.k) /\ w.cell? ⟨b,o + 1,none⟩ = some (.string x.t) /\ w.cell? ⟨b,o + 2,none⟩ = some (.string x.v) /\
 ELow B w (.slice (some (if c = 1 then ⟨b,o,none⟩ else ⟨b,o + 3,none⟩)) xs.length (c - 1)) xs:=by
 obtain ⟨b,o,c,rfl,h1,h2,q0,q1,q2⟩:=h.1.head
 refine ⟨b,o,c,rfl,h1,h2,q0,q1,q2,ERead.tail h.1,fun hp => ?_⟩
 obtain ⟨b',o',l',c',hv,hb⟩:=h.2 (by simp)
 injection hv with hv
 injection hv with hv
 injection hv with e1
 subst e1
 exact ⟨b,o + 3,_,_,by rw [if_neg (by omega)],hb⟩
def Two (W1 X : World) (nb rb : Nat) : Prop :=
 nb ≠ rb /\ W1.heap.size <= nb /\ W1.heap.size <= rb /\ Blk X nb 24 #[.int .i64 0,.string ⟨#[]⟩,.string ⟨#[]⟩,.slice none 0 0] /\ Blk X rb 36 #[.slice none 0 0] /\ Below W1.heap.size W1 X
section
variable {w w5 : World}
end
theorem shapedL_in : ∀ {l : List Nd} {n : Nd},shapedL l = true -> n ∈ l -> shaped n = true
 | x :: r,n,h,hn => by
  simp only [shapedL,Bool.and_eq_true] at h
  rcases List.mem_cons.1 hn with rfl | hn
  ·exact h.1
  ·exact shapedL_in h.2 hn
structure LoopAt (W1 wr : World) (B m rb nb : Nat) (k ek : Int) (t s : ByteArray) (kids : List Nd) (rest : List Ev) (A1 A2 : Option Addr) (c1 c2 L2 : Nat) (ks : List KV) : Prop where
 len : ks.length <= kids.length
 map : ks.map (·.n) = kids.take ks.length
 row : NRow wr m (.slice A1 ks.length c1) ks
 ev : ELow B wr (.slice A2 L2 c2) (flatL (kids.drop ks.length) ++ endE ek :: rest)
 el : (flatL (kids.drop ks.length) ++ endE ek :: rest).length = L2
 below : Below W1.heap.size W1 wr
 m : m <= wr.heap.size
theorem LoopAt.head {W1 wr : World} {B m rb nb : Nat} {k ek : Int} {t s : ByteArray} {kids : List Nd} {rest : List Ev} {A1 A2 : Option Addr} {c1 c2 L2 : Nat} {ks : List KV} (h : LoopAt W1 wr B m rb nb k ek t s kids rest A1 A2 c1 c2 L2 ks) (hsh : shapedL kids = true) (hek : endsK ek = true) (hlt : ks.length < kids.length) :
 ∃ b o kx x,A2 = some ⟨b,o,none⟩ /\ 0 < L2 /\ wr.cell? ⟨b,o,none⟩ = some (.int .i64 kx) /\ kx ≠ ek /\ x ∈ kids /\ kids.drop ks.length = x :: kids.drop (ks.length + 1) /\ ELow B wr (.slice A2 L2 c2) (flat x ++ (flatL (kids.drop (ks.length + 1)) ++ endE ek :: rest)) /\
  (flatL (kids.drop (ks.length + 1)) ++ endE ek :: rest).length < L2 /\ kids.take (ks.length + 1) = kids.take ks.length ++ [x]:=by
 have hdr : kids.drop ks.length = kids[ks.length] :: kids.drop (ks.length + 1):=List.drop_eq_getElem_cons hlt
 have hm:=List.getElem_mem hlt
 have ht:=List.take_succ_eq_append_getElem hlt
 have hsx:=shapedL_in hsh hm
 have hE:=h.ev
 have hl:=h.el
 rw [hdr] at hE hl
 generalize kids[ks.length] = x at *
 cases x with
 | mk kx tx sx lx =>
  simp only [flatL,List.append_assoc] at hE hl
  simp only [shaped,Bool.and_eq_true] at hsx
  have hh:=hE
  have e0 : flat (.mk kx tx sx lx) ++ (flatL (kids.drop (ks.length + 1)) ++ endE ek :: rest) = ⟨kx,tx,sx⟩ :: (flatL lx ++ endL kx ++ (flatL (kids.drop (ks.length + 1)) ++ endE ek :: rest)):=by simp [flat]
  have hl2:=hl
  rw [e0] at hh hl2
  obtain ⟨b,o,c,hv,_,_,q0,_⟩:=hh.head
  injection hv with e1 e2 e3
  refine ⟨b,o,kx,_,e1,by omega,q0,fun e => ?_,hm,hdr,hE,?_,ht⟩
  ·have:=shape_head hsx.1
   rw [e,hek] at this
   exact absurd this (by decide)
  ·rw [<- hl2]
   simp
   omega
theorem LoopAt.last {W1 wr : World} {B m rb nb : Nat} {k ek : Int} {t s : ByteArray} {kids : List Nd} {rest : List Ev} {A1 A2 : Option Addr} {c1 c2 L2 : Nat} {ks : List KV} (h : LoopAt W1 wr B m rb nb k ek t s kids rest A1 A2 c1 c2 L2 ks) (hlt : ¬ ks.length < kids.length) :
 ks.map (·.n) = kids /\ ∃ b o,A2 = some ⟨b,o,none⟩ /\ L2 = rest.length + 1 /\ L2 <= c2 /\ c2 <= 9223372036854775807 /\ wr.cell? ⟨b,o,none⟩ = some (.int .i64 ek) /\ ELow B wr (.slice (some (if c2 = 1 then ⟨b,o,none⟩ else ⟨b,o + 3,none⟩)) rest.length (c2 - 1)) rest:=by
 have hl:=h.len
 have hE:=h.ev
 rw [List.drop_eq_nil_of_le (by omega)] at hE
 simp only [flatL,List.nil_append] at hE
 obtain ⟨b,o,c,hv,h1,h2,q0,_,_,hT⟩:=hE.head
 injection hv with e1 e2 e3
 subst e3
 refine ⟨by rw [h.map,List.take_of_length_le (by omega)],b,o,e1,e2,by omega,by simpa [maxLen] using h2,q0,hT⟩
open Go.RowKit Go.Maps Go.Shelf
attribute [local go_sem] Oper.semAt_some
theorem sameN_unfold (k k' : Int) (t t' v v' : ByteArray) (l l' : List Nd) : sameN (.mk k t v l) (.mk k' t' v' l') = (decide (k = k') && (decide (t = t') && (decide (v = v') && sameL l l'))):=by simp only [sameN]
def dN : Nd:=.mk 0 ⟨#[]⟩ ⟨#[]⟩ []
theorem getD_at {l : List Nd} {j : Nat} (h : j < l.length) : l.getD j dN = l[j]:=by rw [List.getD_eq_getElem?_getD,List.getElem?_eq_getElem h]; rfl
theorem sameL_at {l m : List Nd} (h : l.length = m.length) {j : Nat} (hj : j < l.length) (hp : sameL (l.take j) (m.take j) = true) :
 sameL (l.take (j + 1)) (m.take (j + 1)) = sameN l[j] (m[j]'(by omega)) /\ (sameN l[j] (m[j]'(by omega)) = false -> sameL l m = false):=by
 have h1 : sameL (l.take (j + 1)) (m.take (j + 1)) = sameN l[j] (m[j]'(by omega)):=by
  rw [List.take_succ_eq_append_getElem hj,List.take_succ_eq_append_getElem (by omega : j < m.length),sameL_snoc _ _ _ _ (by simp; omega),hp,Bool.true_and]
 refine ⟨h1,fun hn => ?_⟩
 rw [Bool.eq_false_iff]
 intro hs
 have:=(sameL_iff _ _).1 hs
 subst this
 rw [sameN_refl] at hn
 cases hn
theorem sameL_diff {l m : List Nd} (h : l.length ≠ m.length) : sameL l m = false:=by
 rw [Bool.eq_false_iff]
 exact fun hs => h (sameL_len hs)
theorem sameL_atD {l m : List Nd} (h : l.length = m.length) {j : Nat} (hj : j < l.length) (hp : sameL (l.take j) (m.take j) = true) :
 sameL (l.take (j + 1)) (m.take (j + 1)) = sameN (l.getD j dN) (m.getD j dN) /\ (sameN (l.getD j dN) (m.getD j dN) = false -> sameL l m = false):=by
 rw [getD_at hj,getD_at (by omega : j < m.length)]
 exact sameL_at h hj hp
set_option maxHeartbeats 4000000 in
theorem rsame_any (n : Nd) : ∀ (m : Nd) (S S' : Nat -> Nat -> Prop) (A A' : Option Addr) (c c' : Nat) (w : World),NAt S w n A c -> NAt S' w m A' c' ->
 Calls Tryz.prog 21 #[.agg #[.int .i64 n.k,.string n.t,.string n.v,.slice A n.kids.length c],.agg #[.int .i64 m.k,.string m.t,.string m.v,.slice A' m.kids.length c']] w fun e w' => e = .returned (.bool (sameN n m)) /\ Below w.heap.size w w':=by
 induction n using Nd.ind with
 | h k t v l ih =>
  intro m S S' A A' c c' w hA hA'
  obtain ⟨k',t',v',l'⟩:=m
  simp only [Nd.k,Nd.t,Nd.v,Nd.kids]
  obtain ⟨hlc,hcm,hkids⟩:=(NAt.def_ _ _ _).1 hA
  obtain ⟨hlc',hcm',hkids'⟩:=(NAt.def_ _ _ _).1 hA'
  simp only [Nd.kids] at hlc hkids hlc' hkids'
  have hcm2 : c <= 9223372036854775807:=by simpa [maxLen] using hcm
  have hcm2' : c' <= 9223372036854775807:=by simpa [maxLen] using hcm'
  have hbel : ∀ o1 o2,Below w.heap.size w ((w.alloc o1).alloc o2):=fun o1 o2 => ((Below.refl _ w).alloc (Nat.le_refl _) _).alloc (by simp) _
  rw [sameN_unfold]
  by_cases hk : k = k'
  case neg =>
   rw [decide_eq_false hk,Bool.false_and]
   have z1:=ibeq hk
   have z2:=ibne hk
   clear ih hkids hkids' hA hA' hk
   go_enter Tryz.func21,Tryz.ntmps21
   go_wp2
   go_ret
   exact ⟨rfl,hbel _ _⟩
  case pos =>
   subst hk
   rw [decide_eq_true rfl,Bool.true_and]
   by_cases ht : t = t'
   case neg =>
    rw [decide_eq_false ht,Bool.false_and]
    obtain ⟨z1,z2⟩:=str_diff ht
    clear ih hkids hkids' hA hA' ht
    go_enter Tryz.func21,Tryz.ntmps21
    go_wp2
    go_ret
    exact ⟨rfl,hbel _ _⟩
   case pos =>
    subst ht
    rw [decide_eq_true rfl,Bool.true_and]
    by_cases hv : v = v'
    case neg =>
     rw [decide_eq_false hv,Bool.false_and]
     obtain ⟨z1,z2⟩:=str_diff hv
     clear ih hkids hkids' hA hA' hv
     go_enter Tryz.func21,Tryz.ntmps21
     go_wp2
     go_ret
     exact ⟨rfl,hbel _ _⟩
    case pos =>
     subst hv
     rw [decide_eq_true rfl,Bool.true_and]
     by_cases hl : l.length = l'.length
     case neg =>
      rw [sameL_diff hl]
      have z1:=ibeq (a:=(l.length : Int)) (b:=l'.length) (by omega)
      have z2:=ibne (a:=(l.length : Int)) (b:=l'.length) (by omega)
      clear ih hkids hkids' hA hA' hl
      go_enter Tryz.func21,Tryz.ntmps21
      go_wp2
      go_ret
      exact ⟨rfl,hbel _ _⟩
     case pos =>
      have hla:=fun (j : Nat) (hj : j < l.length) hp => sameL_atD hl hj hp
      have hkids2 : 0 < l.length -> ∃ b o,A' = some ⟨b,o,none⟩ /\ ∀ j,j < l.length -> KidAt S' w b (o + j * 4) (l'.getD j dN):=fun hp => by
       obtain ⟨b,o,h1,_,h3⟩:=hkids' (by omega)
       exact ⟨b,o,h1,fun j hj => by rw [getD_at (by omega)]; exact h3 j (by omega)⟩
      have HL:=Lib.hid hl
      rw [<- hl] at hlc' ⊢
      clear hA hA' hkids' hl
      obtain ⟨W0,hW0⟩ : ∃ W0,(w.alloc (.cells #[.int .i64 k,.string t,.string v,.slice A l.length c] 24)).alloc (.cells #[.int .i64 k,.string t,.string v,.slice A' l.length c'] 24) = W0:=⟨_,rfl⟩
      have HB:=Lib.hid (show Below w.heap.size w W0 by rw [<- hW0]; exact hbel _ _)
      have HX:=Lib.hid (show Blk W0 w.heap.size 24 #[.int .i64 k,.string t,.string v,.slice A l.length c] by rw [<- hW0]; exact (Blk.new w _ _).alloc _)
      have HY:=Lib.hid (show Blk W0 (w.heap.size + 1) 24 #[.int .i64 k,.string t,.string v,.slice A' l.length c'] by
       rw [<- hW0]
       have:=Blk.new (w.alloc (.cells #[.int .i64 k,.string t,.string v,.slice A l.length c] 24)) 24 #[.int .i64 k,.string t,.string v,.slice A' l.length c']
       rw [World.size_alloc] at this
       exact this)
      have hs0 : W0.heap.size = w.heap.size + 2:=by rw [<- hW0]; simp
      have c0 : W0.cell? ⟨w.heap.size,0,none⟩ = some (.int .i64 k):=HX.out.cell 0
      have c1 : W0.cell? ⟨w.heap.size,1,none⟩ = some (.string t):=HX.out.cell 1
      have c2 : W0.cell? ⟨w.heap.size,2,none⟩ = some (.string v):=HX.out.cell 2
      have c3 : W0.cell? ⟨w.heap.size,3,none⟩ = some (.slice A l.length c):=HX.out.cell 3
      have d0 : W0.cell? ⟨w.heap.size + 1,0,none⟩ = some (.int .i64 k):=HY.out.cell 0
      have d1 : W0.cell? ⟨w.heap.size + 1,1,none⟩ = some (.string t):=HY.out.cell 1
      have d2 : W0.cell? ⟨w.heap.size + 1,2,none⟩ = some (.string v):=HY.out.cell 2
      have d3 : W0.cell? ⟨w.heap.size + 1,3,none⟩ = some (.slice A' l.length c'):=HY.out.cell 3
      go_enter Tryz.func21,Tryz.ntmps21
      go_wp2
      go_loopw [5] (fun i wr => ∃ j : Nat,j <= l.length /\ i = .int .i64 (j : Int) /\ Hid (sameL (l.take j) (l'.take j) = true) /\ Hid (Below W0.heap.size W0 wr)) (fun i _ => l.length - (intOf i).toNat)
      case atStart => exact ⟨0,Nat.zero_le _,rfl,Lib.hid rfl,Lib.hid (Below.refl _ _)⟩
      case round =>
       obtain ⟨j,hj,rfl,HP,HW⟩:=hrel
       have hbw:=HB.out.trans (HW.out.mono HB.out.size)
       have x3 : wr.cell? ⟨w.heap.size,3,none⟩ = some (.slice A l.length c):=(HX.out.below HW.out HX.out.lt).cell 3
       have y3 : wr.cell? ⟨w.heap.size + 1,3,none⟩ = some (.slice A' l.length c'):=(HY.out.below HW.out HY.out.lt).cell 3
       by_cases hlt : j < l.length
       case pos =>
        obtain ⟨b,o,rfl,_,hkid⟩:=hkids (by omega)
        obtain ⟨b',o',rfl,hkid'⟩:=hkids2 (by omega)
        have hk1:=hkid j hlt
        have hih0:=ih _ (List.getElem_mem hlt)
        rw [<- getD_at hlt] at hk1 hih0
        obtain ⟨B,cB,q0,q1,q2,q3,hn1⟩:=kid_cells hk1 hbw
        obtain ⟨B',cB',p0,p1,p2,p3,hn2⟩:=kid_cells (hkid' j hlt) hbw
        obtain ⟨ga1,ga2⟩:=hla j hlt HP.out
        have hih:=fun (w' : World) (h : Below wr.heap.size wr w') => hih0 _ S S' B B' cB cB' w' (hn1.below h) (hn2.below h)
        have hjc : j < c:=by omega
        have hjc' : j < c':=by omega
        clear hkid hkid' hkids hkids2 hn1 hn2 hla ih hih0 hk1
        generalize l.getD j dN = kd at *
        generalize l'.getD j dN = kd' at *
        go_wp2
        refine region_g [11] (S:=(fun W => W.cell? ⟨w.heap.size,3,none⟩ = some (.slice (some ⟨b,o,none⟩) l.length c) /\ W.cell? ⟨w.heap.size + 1,3,none⟩ = some (.slice (some ⟨b',o',none⟩) l.length c') /\ W.cell? ⟨b,o + j * 4,none⟩ = some (.int .i64 kd.k) /\ W.cell? ⟨b,o + j * 4 + 1,none⟩ = some (.string kd.t) /\ W.cell? ⟨b,o + j * 4 + 2,none⟩ = some (.string kd.v) /\ W.cell? ⟨b,o + j * 4 + 3,none⟩ = some (.slice B kd.kids.length cB) /\ W.cell? ⟨b',o' + j * 4,none⟩ = some (.int .i64 kd'.k) /\ W.cell? ⟨b',o' + j * 4 + 1,none⟩ = some (.string kd'.t) /\ W.cell? ⟨b',o' + j * 4 + 2,none⟩ = some (.string kd'.v) /\ W.cell? ⟨b',o' + j * 4 + 3,none⟩ = some (.slice B' kd'.kids.length cB'))) (by kernel_rfl) ⟨x3,y3,q0,q1,q2,q3,p0,p1,p2,p3⟩ (fun hH => ?_)
        refine g_take (i:=0) (v:=.pointer (some ⟨w.heap.size,3,none⟩)) (by rfl) (by kernel_rfl) (by kernel_rfl) (by kernel_rfl) (by kernel_rfl) (fun _ _ _ h => (by cases h.1)) (Or.inl ⟨by rfl,fun W hS => (by obtain ⟨s1,s2,s3,s4,s5,s6,s7,s8,s9,s10⟩:=hS; go_simp)⟩) hH ?_
        simp only [Act.put,List.setIfInBounds_toArray,List.set_cons_zero,List.set_cons_succ]
        refine g_take (i:=1) (v:=.slice (some ⟨b,o,none⟩) l.length c) (by rfl) (by kernel_rfl) (by kernel_rfl) (by kernel_rfl) (by kernel_rfl) (fun _ _ _ h => (by cases h.1)) (Or.inl ⟨by rfl,fun W hS => (by obtain ⟨s1,s2,s3,s4,s5,s6,s7,s8,s9,s10⟩:=hS; go_simp)⟩) hH ?_
        simp only [Act.put,List.setIfInBounds_toArray,List.set_cons_zero,List.set_cons_succ]
        refine g_take (i:=2) (v:=.int .i64 (j : Int)) (by rfl) (by kernel_rfl) (by kernel_rfl) (by kernel_rfl) (by kernel_rfl) (fun _ _ _ h => (by cases h.1)) (Or.inl ⟨by rfl,fun W hS => (by obtain ⟨s1,s2,s3,s4,s5,s6,s7,s8,s9,s10⟩:=hS; go_simp)⟩) hH ?_
        simp only [Act.put,List.setIfInBounds_toArray,List.set_cons_zero,List.set_cons_succ]
        refine g_take (i:=3) (v:=.pointer (some ⟨b,o + j * 4,none⟩)) (by rfl) (by kernel_rfl) (by kernel_rfl) (by kernel_rfl) (by kernel_rfl) (fun _ _ _ h => (by cases h.1)) (Or.inl ⟨by rfl,fun W hS => (by obtain ⟨s1,s2,s3,s4,s5,s6,s7,s8,s9,s10⟩:=hS; go_simp)⟩) hH ?_
        simp only [Act.put,List.setIfInBounds_toArray,List.set_cons_zero,List.set_cons_succ]
        refine g_take (i:=4) (v:=.agg #[.int .i64 kd.k,.string kd.t,.string kd.v,.slice B kd.kids.length cB]) (by rfl) (by kernel_rfl) (by kernel_rfl) (by kernel_rfl) (by kernel_rfl) (fun _ _ _ h => (by cases h.1)) (Or.inl ⟨by rfl,fun W hS => (by obtain ⟨s1,s2,s3,s4,s5,s6,s7,s8,s9,s10⟩:=hS; go_simp)⟩) hH ?_
        simp only [Act.put,List.setIfInBounds_toArray,List.set_cons_zero,List.set_cons_succ]
        refine g_take (i:=5) (v:=.pointer (some ⟨w.heap.size + 1,3,none⟩)) (by rfl) (by kernel_rfl) (by kernel_rfl) (by kernel_rfl) (by kernel_rfl) (fun _ _ _ h => (by cases h.1)) (Or.inl ⟨by rfl,fun W hS => (by obtain ⟨s1,s2,s3,s4,s5,s6,s7,s8,s9,s10⟩:=hS; go_simp)⟩) hH ?_
        simp only [Act.put,List.setIfInBounds_toArray,List.set_cons_zero,List.set_cons_succ]
        refine g_take (i:=6) (v:=.slice (some ⟨b',o',none⟩) l.length c') (by rfl) (by kernel_rfl) (by kernel_rfl) (by kernel_rfl) (by kernel_rfl) (fun _ _ _ h => (by cases h.1)) (Or.inl ⟨by rfl,fun W hS => (by obtain ⟨s1,s2,s3,s4,s5,s6,s7,s8,s9,s10⟩:=hS; go_simp)⟩) hH ?_
        simp only [Act.put,List.setIfInBounds_toArray,List.set_cons_zero,List.set_cons_succ]
        refine g_take (i:=7) (v:=.int .i64 (j : Int)) (by rfl) (by kernel_rfl) (by kernel_rfl) (by kernel_rfl) (by kernel_rfl) (fun _ _ _ h => (by cases h.1)) (Or.inl ⟨by rfl,fun W hS => (by obtain ⟨s1,s2,s3,s4,s5,s6,s7,s8,s9,s10⟩:=hS; go_simp)⟩) hH ?_
        simp only [Act.put,List.setIfInBounds_toArray,List.set_cons_zero,List.set_cons_succ]
        refine g_take (i:=8) (v:=.pointer (some ⟨b',o' + j * 4,none⟩)) (by rfl) (by kernel_rfl) (by kernel_rfl) (by kernel_rfl) (by kernel_rfl) (fun _ _ _ h => (by cases h.1)) (Or.inl ⟨by rfl,fun W hS => (by obtain ⟨s1,s2,s3,s4,s5,s6,s7,s8,s9,s10⟩:=hS; go_simp)⟩) hH ?_
        simp only [Act.put,List.setIfInBounds_toArray,List.set_cons_zero,List.set_cons_succ]
        refine g_take (i:=9) (v:=.agg #[.int .i64 kd'.k,.string kd'.t,.string kd'.v,.slice B' kd'.kids.length cB']) (by rfl) (by kernel_rfl) (by kernel_rfl) (by kernel_rfl) (by kernel_rfl) (fun _ _ _ h => (by cases h.1)) (Or.inl ⟨by rfl,fun W hS => (by obtain ⟨s1,s2,s3,s4,s5,s6,s7,s8,s9,s10⟩:=hS; go_simp)⟩) hH ?_
        simp only [Act.put,List.setIfInBounds_toArray,List.set_cons_zero,List.set_cons_succ]
        refine g_one (i:=10) (by kernel_rfl) (by rfl) (fun K hK => ?_)
        go_simp
        have hb1 : Below wr.heap.size wr wr.drew:=below_drew (Below.refl _ _)
        refine (hih wr.drew hb1).mono ?_
        rintro e w5 ⟨rfl,hb5⟩
        have hb6 : Below wr.heap.size wr w5:=hb1.trans hb5
        refine hK.out _ _ (fun _ => ⟨(hb6.cell (cell_lt x3)).trans x3,(hb6.cell (cell_lt y3)).trans y3,(hb6.cell (cell_lt q0)).trans q0,(hb6.cell (cell_lt q1)).trans q1,(hb6.cell (cell_lt q2)).trans q2,(hb6.cell (cell_lt q3)).trans q3,(hb6.cell (cell_lt p0)).trans p0,(hb6.cell (cell_lt p1)).trans p1,(hb6.cell (cell_lt p2)).trans p2,(hb6.cell (cell_lt p3)).trans p3⟩) (fun _ => ?_)
        clear hK K hH hih x3 y3 q0 q1 q2 q3 p0 p1 p2 p3
        refine g_one (i:=11) (by kernel_rfl) (by rfl) (fun K hK => ?_)
        go_simp
        refine hK.out _ _ (fun h => absurd (by decide) h) (fun _ => ?_)
        clear hK K
        refine g_done (by kernel_rfl) ⟨rfl,?_⟩ _
        have HG1:=Lib.hid ga1
        have hW5:=HW.out.trans (hb6.mono HW.out.size)
        cases hs : sameN kd kd' with
        | true =>
         have HS:=Lib.hid hs
         clear hs ga1 ga2 hb6 hb1 hb5
         go_wp2
         go_roundw
         case rel => exact ⟨j + 1,hlt,by go_num,Lib.hid (by rw [HG1.out,HS.out]),Lib.hid hW5⟩
         case measure => first | (simp [intOf]; done) | (simp [intOf]; omega)
        | false =>
         have HS:=Lib.hid (ga2 hs)
         clear hs ga1 ga2 hb6 hb1 hb5
         go_wp2
         go_ret
         exact ⟨by rw [HS.out]; rfl,HB.out.trans (hW5.mono HB.out.size)⟩
       case neg =>
        have hje : j = l.length:=by omega
        subst hje
        have hp:=HP.out
        rw [List.take_length,HL.out,List.take_length] at hp
        have HPP:=Lib.hid hp
        clear hp hla
        go_wp2
        go_ret
        exact ⟨by rw [HPP.out]; rfl,HB.out.trans (HW.out.mono HB.out.size)⟩
end Go.Proofs.YtbnppjmmlfncmaaGreatDoor
