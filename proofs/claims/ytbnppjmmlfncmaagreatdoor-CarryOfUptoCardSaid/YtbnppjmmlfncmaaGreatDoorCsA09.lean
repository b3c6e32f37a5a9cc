/-
  A region that draws its order, within a round of a range over a function: by the laws for a region that stands alone. No program is read here.
  A row that is appended to, call by call: what lay is as it lay but for the row's own block. No program is read here.
  carry: the one-line form (form, parts, Row).
  'same' of two lists of whole numbers (hexaplalaw01).
  The contract of src's payload: the bits of a byte that tell of its character.
  src's Runes.
  Contracts of num's machine: digit, step, complete, May.
-/
import Derived.Test.YtbnppjmmlfncmaaGreatDoorCsA08
import Derived.OrdersIn
import Derived.OrdersHeld
import Derived.Deep.RegionHeld3
import Derived.Test.YtbnppjmmlfncmaaGreatDoorCsA07
import Derived.Lib.AppendStr
import Derived.Test.YtbnppjmmlfncmaaGreatDoorCsA06
import Derived.Test.YtbnppjmmlfncmaaGreatDoorCsA03
import Derived.Test.YtbnppjmmlfncmaaGreatDoorCsA04
import Derived.Test.YtbnppjmmlfncmaaGreatDoorChecked
import Derived.Test.YtbnppjmmlfncmaaGreatDoorCsA01
import Derived.WalkKit
import Derived.WalkSpells
import Derived.WalkLawsBesides
import Derived.Lib.Hide
set_option maxRecDepth 100000
set_option linter.unusedSimpArgs false
namespace Go.Proofs.YtbnppjmmlfncmaaGreatDoor
open Go Go.RowKit
section
variable {P : Program} {ops : Array Oper} {Q : Exit -> Act -> World -> Prop} {md : Region.Mode}
def wpAnyG (P : Program) (md : Region.Mode) (ops : Array Oper) (Q : Exit -> Act -> World -> Prop) (Es : List Nat) (S : World -> Prop) : Nat -> Array Bool -> Act -> World -> Prop
 | 0,listed,a,w => Region.ready md ops listed = [] /\ Q .normal a w
 | fuel + 1,listed,a,w =>
  (Region.ready md ops listed = [] -> Q .normal a w) /\
  ∀ i ∈ Region.ready md ops listed,wpOp P ops Q i (fun a' w' => (i ∉ Es -> S w') /\ wpAnyG P md ops Q Es S fuel (listed.setIfInBounds i true) a' w') a w
variable {S : World -> Prop} {Es : List Nat}
theorem any_of_g : ∀ (fuel : Nat) (listed : Array Bool) (a : Act) (w : World),wpAnyG P md ops Q Es S fuel listed a w -> wpAny P md ops Q fuel listed a w
 | 0,_,_,_,h => h
 | fuel + 1,_,_,_,h => ⟨h.1,fun i hi => wpOp_mono (fun a' w' h' => any_of_g fuel _ a' w' h'.2) (h.2 i hi)⟩
def waitsFor (md : Region.Mode) (ops : Array Oper) (E i : Nat) : Bool:=match ops[E]? with | some o => o.after.any fun e => Region.binds md e && decide (e.on = i) | none => true
theorem g_first {i : Nat} {oi : Oper} {v : Value} (hi : ops[i]? = some oi) (hsel : ∀ (j : Nat) (o : Oper) cs b,ops[j]? = some o -> o.op ≠ .select cs b) (hE : (Es.all fun E => waitsFor md ops E i) = true)
 (hQ : ∀ c a w,Q (.panic c) (a.put oi.dst v) w -> Q (.panic c) a w) :
 ∀ (fuel : Nat) (listed : Array Bool) (a : Act) (w : World),
  (∀ j oj,ops[j]? = some oj -> j ≠ i -> listed.getD j true = false -> (∀ e ∈ oj.after,Region.binds md e = true -> e.on ≠ i) -> oi.apart ops oj = true) ->
  i ∈ Region.ready md ops listed -> YieldsIf P ops S oi v a -> S w ->
  wpAnyG P md ops Q Es S fuel (listed.setIfInBounds i true) (a.put oi.dst v) w -> wpAnyG P md ops Q Es S (fuel + 1) listed a w:=by
 intro fuel
 induction fuel with
 | zero =>
  intro listed a w _ hr hy hS H
  refine ⟨fun h => (by rw [h] at hr; cases hr),fun j hj => ?_⟩
  by_cases hji : j = i
  ·subst hji; exact hy.wpOp hi hS ⟨fun _ => hS,H⟩
  ·have:=ready_mono hj hji
   rw [H.1] at this
   cases this
 | succ fuel ih =>
  intro listed a w hfree hr hy hS H
  refine ⟨fun h => (by rw [h] at hr; cases hr),fun j hj => ?_⟩
  by_cases hji : j = i
  ·subst hji; exact hy.wpOp hi hS ⟨fun _ => hS,H⟩
  ·have h1:=H.2 j (ready_mono hj hji)
   obtain ⟨hjun,oj,hoj,hall⟩:=mem_ready.1 hj
   have hnot : ∀ e ∈ oj.after,Region.binds md e = true -> e.on ≠ i:=fun e he hb heq => by
    have h1:=hall e he hb
    have h0:=(mem_ready.1 hr).1
    rw [heq] at h1
    rcases Nat.lt_or_ge i listed.size with h' | h'
    ·simp [h'] at h0 h1; rw [h0] at h1; cases h1
    ·simp [Array.getElem?_eq_none h'] at h1
   have hjE : j ∉ Es:=by
    intro hm
    have hE:=List.all_eq_true.1 hE j hm
    unfold waitsFor at hE
    rw [hoj] at hE
    simp only [Array.any_eq_true,Bool.and_eq_true,decide_eq_true_iff] at hE
    obtain ⟨q,hq,hb,he⟩:=hE
    exact hnot _ (Array.getElem_mem hq) hb he
   have h2:=wpOp_putIf hoj (hfree j oj hoj hji hjun hnot) (fun cs b => hsel i oi cs b hi) (fun cs b => hsel j oj cs b hoj) hQ hy h1
   have hfree' : ∀ k ok,ops[k]? = some ok -> k ≠ i -> (listed.setIfInBounds j true).getD k true = false ->
    (∀ e ∈ ok.after,Region.binds md e = true -> e.on ≠ i) -> oi.apart ops ok = true:=fun k ok hk hki hun hno => by
    refine hfree k ok hk hki ?_ hno
    by_cases hjk : j = k
    ·subst hjk; exact hjun
    ·rw [getD_set_ne true hjk] at hun; exact hun
   refine wpOp_mono (fun a' w' h3 => ⟨fun _ => h3.2.1 hjE,ih (listed.setIfInBounds j true) a' w' hfree' (ready_mono hr (Ne.symm hji)) h3.1 (h3.2.1 hjE) ?_⟩) h2
   rw [Array.setIfInBounds_comm _ _ hji]
   exact h3.2.2
theorem g_take {i : Nat} {oi : Oper} {v : Value} {fuel : Nat} {listed : Array Bool} {a : Act} {w : World} (hi : ops[i]? = some oi)
 (hs : Region.noSelect ops = true) (hE : (Es.all fun E => waitsFor md ops E i) = true) (hf : Region.free md ops listed i = true) (hr : (Region.ready md ops listed).contains i = true)
 (hQ : ∀ c a w,Q (.panic c) (a.put oi.dst v) w -> Q (.panic c) a w) (hy : YieldsIf P ops S oi v a) (hS : S w)
 (h : wpAnyG P md ops Q Es S fuel (listed.setIfInBounds i true) (a.put oi.dst v) w) : wpAnyG P md ops Q Es S (fuel + 1) listed a w :=
 g_first hi (Region.noSelect_spec hs) hE hQ fuel listed a w (Region.free_spec hi hf) (by simpa using hr) hy hS h
theorem g_done {listed : Array Bool} {a : Act} {w : World} (hr : Region.ready md ops listed = []) (h : Q .normal a w) : ∀ fuel,wpAnyG P md ops Q Es S fuel listed a w
 | 0 => ⟨hr,h⟩
 | _ + 1 => ⟨fun _ => h,by rw [hr]; simp⟩
theorem g_one {i : Nat} {o : Oper} {fuel : Nat} {listed : Array Bool} {a : Act} {w : World} (hr : Region.ready md ops listed = [i]) (ho : ops[i]? = some o)
 (h : ∀ K' : Act -> World -> Prop,Shut (∀ a w,(i ∉ Es -> S w) -> ((i ∉ Es -> S w) -> wpAnyG P md ops Q Es S fuel (listed.setIfInBounds i true) a w) -> K' a w) -> if Region.wanted o (yielded ops a.tmps) = true then Oper.wp P o a w K' Q else K' (a.put o.dst undef) w) :
 wpAnyG P md ops Q Es S (fuel + 1) listed a w:=by
 refine ⟨fun h0 => (by rw [hr] at h0; cases h0),fun j hj => ?_⟩
 rw [hr] at hj
 obtain rfl : j = i:=by simpa using hj
 exact wpOp_step ho (fun K' hK => h K' (fun a w hS hW => hK a w ⟨hS,hW hS⟩))
theorem region_g {id : Nat} (Es : List Nat) {S : World -> Prop} {a : Act} {w : World} (hm : P.follows .mixedOrders = true) (hS : S w.drew)
 (h : S w.drew -> wpAnyG P .any ops (fun e a w => e = .normal /\ Q .normal a w) Es S ops.size (Array.replicate ops.size false) a w.drew) : (Code.region id ops true).wp P Q a w :=
 wp_mono (wp_region_any hm (any_of_g _ _ _ _ (h hS))) fun e a w h => by obtain ⟨rfl,h⟩:=h; exact h
end
open Go.RowKit
structure OStep (w : World) (v : Value) (w' : World) (v' : Value) : Prop where
 grown : w.grownBy w' v.ownBlock
 own : v'.ownBlock = v.ownBlock \/ ∃ g,v'.ownBlock = some g /\ w.heap.size <= g
section
variable {w w1 w2 : World} {v v1 v2 : Value}
theorem OStep.refl (w : World) (v : Value) : OStep w v w v:=⟨World.grownBy.refl w _,.inl rfl⟩
theorem OStep.trans (h : OStep w v w1 v1) (k : OStep w1 v1 w2 v2) : OStep w v w2 v2:=by
 refine ⟨⟨k.grown.os.trans h.grown.os,k.grown.tape.trans h.grown.tape,k.grown.output.trans h.grown.output,Nat.le_trans h.grown.size k.grown.size,fun i hi hne => ?_⟩,?_⟩
 ·refine (k.grown.block i (Nat.lt_of_lt_of_le hi h.grown.size) fun e => ?_).trans (h.grown.block i hi hne)
  rcases h.own with h1 | ⟨g,h1,h2⟩
  ·exact hne (e.trans h1)
  ·rw [h1] at e; injection e with e; omega
 ·rcases k.own with h1 | ⟨g,h1,h2⟩
  ·rcases h.own with h3 | ⟨g,h3,h4⟩
   ·exact .inl (h1.trans h3)
   ·exact .inr ⟨g,h1.trans h3,h4⟩
  ·exact .inr ⟨g,h1,Nat.le_trans h.grown.size h2⟩
theorem OStep.of_below (h : Below w.heap.size w w1) (v : Value) : OStep w v w1 v:=⟨only_of_below h _,.inl rfl⟩
theorem OStep.then_below (h : OStep w v w1 v1) (k : Below w1.heap.size w1 w2) : OStep w v w2 v1:=h.trans (OStep.of_below k v1)
theorem OStep.alloc (h : OStep w v w1 v1) (o : Obj) : OStep w v (w1.alloc o) v1:=h.then_below ((Below.refl _ _).alloc (Nat.le_refl _) _)
theorem OStep.size (h : OStep w v w1 v1) : w.heap.size <= w1.heap.size:=h.grown.size
theorem OStep.blk (h : OStep w v w1 v1) {g : Nat} {t : TypeId} {cs : Array Value} (hb : Blk w g t cs) (hg : some g ≠ v.ownBlock) : Blk w1 g t cs /\ some g ≠ v1.ownBlock:=by
 refine ⟨hb.grown h.grown hg,fun e => ?_⟩
 rcases h.own with h1 | ⟨g',h1,h2⟩
 ·exact hg (e.trans h1)
 ·rw [h1] at e; injection e with e; have:=hb.lt; omega
theorem OStep.heap (h : OStep w v w1 v1) {g : Nat} (hl : g < w.heap.size) (hg : some g ≠ v.ownBlock) : w1.heap[g]? = w.heap[g]?:=h.grown.block g hl hg
theorem OStep.set (h : OStep w v w1 v1) {p : Addr} (hp : w.heap.size <= p.block) (u : Value) : OStep w v (w1.setCell p u) v1 :=
 ⟨⟨h.grown.os,h.grown.tape,h.grown.output,by simpa [World.setCell] using h.grown.size,fun k hk hne => (Below.heap_setCell w1 p u k (by omega)).trans (h.grown.block k hk hne)⟩,h.own⟩
theorem OStep.drew (h : OStep w v w1 v1) : OStep w v w1.drew v1:=⟨only_drew h.grown,h.own⟩
theorem OStep.none_below (h : OStep w (.slice none 0 0) w1 v1) : Below w.heap.size w w1 :=
 ⟨h.grown.os,h.grown.tape,h.grown.output,h.grown.size,fun k hk => h.grown.block k hk (by simp [Value.ownBlock])⟩
theorem OStep.below {base : Nat} {e : TypeId} {size n : Nat} {xs : List Value} (h : OStep w v w1 v1) (hr : w.ownsRow base e size v n xs) (hb : base <= w.heap.size) : Below base w w1 :=
 ⟨h.grown.os,h.grown.tape,h.grown.output,h.grown.size,fun k hk => h.grown.block k (by omega) fun hc => by have:=(World.ownsRow.lt hr k hc.symm).1; omega⟩
end
section
variable {P : Program} {w : World}
theorem wp_appO {ops : Array Oper} {rest : List Oper} {o : Oper} {a : Act} {Q : Exit -> Act -> World -> Prop} (hgd : o.guard = none) (s x : Operand) (t : TypeId)
 (ho : o.op = .call { callee:=.builtin .append,args:=#[s,x],argTypes:=#[t,t] })
 (base : Nat) (e : TypeId) (z : Value) (size bytes : Nat) (ht : P.underlying t = some (.slice e)) (hinfo : (P.info? e).map (fun i => (i.zero,i.size,i.bytes)) = some (some z,size,bytes)) (hz1 : z.cells.size = size) (hs0 : 0 < size)
 (v : Value) (n : Nat) (xs news : List Value) (hs : a.eval s = v) (hown : w.ownsRow base e size v n xs) (hu : ∀ u ∈ news,u.oneCell' = true)
 (A : Addr) (m c : Nat) (hm : news.length = m * size) (hx : a.eval x = .slice (some A) m c) (hc : ∀ j u,news[j]? = some u -> w.cell? (A.add j) = some u)
 (h63 : n + m <= maxLen) (hbytes : (n + m) * bytes <= 140737488355328) (hbase : base <= w.heap.size)
 (h : ∀ v' w',w'.ownsRow base e size v' (n + m) (xs ++ news) -> OStep w v w' v' -> wpList P ops Q rest (a.put o.dst v') w') :
 wpList P ops Q (o :: rest) a w:=by
 obtain ⟨i,hi,hz,hsize,hby⟩:=info_parts hinfo
 refine wpList_plain hgd fun K hK => ?_
 obtain ⟨v',w',hrun,h2,h3,_,h5⟩:=run_append_own_at (P:=P) w base t o.type e i z size bytes ht hi hz hsize hby hz1 hs0 v n xs hown A m c news hm hc hu h63 hbytes hbase
 unfold Oper.wp execOp
 simp only [ho,resolve,invoke,builtin,Sem.run_bind,Sem.run_pure,Result.andThen_ok,List.map_toArray,List.map_cons,List.map_nil,hs,hx,hrun]
 refine hK _ _ (h v' w' h2 ⟨h3,?_⟩)
 rcases h5 with h5 | h5
 ·exact .inl h5
 ·exact .inr ⟨_,h5,by first | exact Nat.le_refl _ | omega⟩
end
open Go.RowKit Go.Maps
section
variable {P : Program} {w : World}
theorem bV_str (b : ByteArray) : Lib.strCells b = b.data.toList.map bV:=rfl
theorem own_str (base : Nat) (t u ty e : TypeId) (ht : P.underlying t = some (.slice e)) (hu : P.underlying u = some .string) (hinfo : (P.info? e).map (fun i => (i.zero,i.size,i.bytes)) = some (some (.int .u8 0),1,1))
 (v : Value) (xs : List UInt8) (hown : ORow w base e v (xs.map bV)) (b : ByteArray) (hb : xs.length + b.size <= 140737488355328) (hbase : base <= w.heap.size) :
 ∃ v' w',(Builtin.append_ #[t,u] ty #[v,.string b]).run P w = .ok v' w' /\ ORow w' base e v' ((xs ++ b.data.toList).map bV) /\ w.grownBy w' v.ownBlock /\ Below base w w':=by
 obtain ⟨i,hi,hz,hsize,hby⟩:=info_parts hinfo
 obtain ⟨v',w',h1,h2,h3,_⟩:=Lib.run_append_own_string (P:=P) (w:=w) base t u ty e i ht hu hi hz hsize hby v (xs.map bV).length (xs.map bV) hown b (by simp [maxLen]; omega) (by simp; omega) hbase
 refine ⟨v',w',h1,?_,h3,?_⟩
 ·unfold ORow
  rw [List.map_append,List.length_append,<- bV_str,Lib.strCells_length]
  exact h2
 ·refine ⟨h3.os,h3.tape,h3.output,h3.size,fun k hk => h3.block k (by omega) fun hcc => ?_⟩
  have:=World.ownsRow.lt hown k hcc.symm
  omega
theorem wp_appT {ops : Array Oper} {rest : List Oper} {o : Oper} {a : Act} {Q : Exit -> Act -> World -> Prop} (hgd : o.guard = none) (s x : Operand) (t u : TypeId)
 (ho : o.op = .call { callee:=.builtin .append,args:=#[s,x],argTypes:=#[t,u] })
 (base : Nat) (e : TypeId) (ht : P.underlying t = some (.slice e)) (hu : P.underlying u = some .string) (hinfo : (P.info? e).map (fun i => (i.zero,i.size,i.bytes)) = some (some (.int .u8 0),1,1))
 (v : Value) (xs : List UInt8) (hs : a.eval s = v) (hown : ORow w base e v (xs.map bV)) (b : ByteArray) (hx : a.eval x = .string b) (hb : xs.length + b.size <= 140737488355328) (hbase : base <= w.heap.size)
 (h : ∀ v' w',ORow w' base e v' ((xs ++ b.data.toList).map bV) -> w.grownBy w' v.ownBlock -> Below base w w' -> wpList P ops Q rest (a.put o.dst v') w') :
 wpList P ops Q (o :: rest) a w:=by
 refine wpList_plain hgd fun K hK => ?_
 obtain ⟨v',w',hrun,h2,h3,h4⟩:=own_str (P:=P) base t u o.type e ht hu hinfo v xs hown b hb hbase
 unfold Oper.wp execOp
 simp only [ho,resolve,invoke,builtin,Sem.run_bind,Sem.run_pure,Result.andThen_ok,List.map_toArray,List.map_cons,List.map_nil,hs,hx,hrun]
 exact hK _ _ (h v' w' h2 h3 h4)
theorem step_appT {ops : Array Oper} {o : Oper} {a : Act} {K : Act -> World -> Prop} {Q : Exit -> Act -> World -> Prop} {E : Prop} (hgd : o.guard = none) (s x : Operand) (t u : TypeId)
 (ho : o.op = .call { callee:=.builtin .append,args:=#[s,x],argTypes:=#[t,u] })
 (base : Nat) (e : TypeId) (ht : P.underlying t = some (.slice e)) (hu : P.underlying u = some .string) (hinfo : (P.info? e).map (fun i => (i.zero,i.size,i.bytes)) = some (some (.int .u8 0),1,1))
 (v : Value) (xs : List UInt8) (hs : a.eval s = v) (hown : ORow w base e v (xs.map bV)) (b : ByteArray) (hx : a.eval x = .string b) (hb : xs.length + b.size <= 140737488355328) (hbase : base <= w.heap.size)
 (h : ∀ v' w',ORow w' base e v' ((xs ++ b.data.toList).map bV) -> w.grownBy w' v.ownBlock -> Below base w w' -> K (a.put o.dst v') w') :
 if Region.wanted o (yielded ops a.tmps) = true then Oper.wp P o a w K Q else E:=by
 have hw : Region.wanted o (yielded ops a.tmps) = true:=by simp [Region.wanted,hgd]
 rw [if_pos hw]
 obtain ⟨v',w',hrun,h2,h3,h4⟩:=own_str (P:=P) base t u o.type e ht hu hinfo v xs hown b hb hbase
 unfold Oper.wp execOp
 simp only [ho,resolve,invoke,builtin,Sem.run_bind,Sem.run_pure,Result.andThen_ok,List.map_toArray,List.map_cons,List.map_nil,hs,hx,hrun]
 exact h v' w' h2 h3 h4
end
def FormPost (base : Nat) (w : World) (l : List UInt8) (e : Ending) (w' : World) : Prop:=∃ v',e = .returned v' /\ ORow w' base 5 v' (l.map bV) /\ Below base w w'
def FormAt (n : Nd) : Prop:=∀ (base : Nat) (v : Value) (xs : List UInt8) (A : Option Addr) (c : Nat) (w : World),NAt (fun b _ => b < base) w n A c -> smallT n -> shaped n = true -> ORow w base 5 v (xs.map bV) -> base <= w.heap.size -> xs.length + sizeN n * 1048900 <= 100000000000 ->
    Calls Tryz.prog 38 #[v,.agg #[.int .i64 n.k,.string n.t,.string n.v,.slice A n.kids.length c]] w (FormPost base w (xs ++ rowN n))
theorem seq_at (l : List Nd) (b : Bool) (j : Nat) (h : j < l.length) : seqN b (l.take (j + 1)) = seqN b (l.take j) ++ ((if b = true /\ j = 0 then [] else [44,32]) ++ rowN (l.getD j dNd)):=by
 rw [List.take_succ_eq_append_getElem h,seqN_snoc,getDn h]
 congr 2
 have : l.take j = [] ↔ j = 0:=by
  rw [List.take_eq_nil_iff]
  constructor
  ·rintro (h1 | h1)
   ·exact h1
   ·subst h1; simp at h
  ·exact .inl
 simp only [this]
theorem sizeL_take : ∀ (l : List Nd) (j : Nat) (_ : j < l.length),sizeL (l.take j) + sizeN (l.getD j dNd) <= sizeL l
 | n :: r,0,_ => by simp [sizeL]
 | n :: r,j + 1,h => by
  have:=sizeL_take r j (by simpa using h)
  simp only [List.take_succ_cons,sizeL,List.getD_cons_succ]
  omega
theorem smallL_take : ∀ (l : List Nd) (j : Nat),smallL l -> smallL (l.take j)
 | [],_,_ => by simp [smallL]
 | n :: r,0,_ => trivial
 | n :: r,j + 1,h => ⟨h.1,smallL_take r j h.2⟩
set_option maxHeartbeats 4000000 in
theorem parts_any (l : List Nd) (ih : ∀ n ∈ l,FormAt n) (base : Nat) (v0 : Value) (xs : List UInt8) (op cl : UInt8) (k : Int) (t v : ByteArray) (A : Option Addr) (c : Nat) (w : World) (hA : NAt (fun b _ => b < base) w (.mk k t v l) A c) (hsm : smallL l) (hsh : shapedL l = true)
 (ho : ORow w base 5 v0 (xs.map bV)) (hbase : base <= w.heap.size) (hsz : xs.length + (1 + sizeL l) * 1048900 <= 100000000000) :
 Calls Tryz.prog 66 #[v0,.int .u8 (op.toNat : Int),.slice A l.length c,.int .u8 (cl.toNat : Int)] w (FormPost base w (xs ++ (op :: (seqN true l ++ [cl])))):=by
 obtain ⟨hlc,hcm,hkids⟩:=(NAt.def_ _ _ _).1 hA
 simp only [Nd.kids] at hlc hkids
 have hcm2 : c <= 9223372036854775807:=by simpa [maxLen] using hcm
 have HSL : Hid (∀ j,(seqN true (l.take j)).length <= sizeL (l.take j) * 1048900):=Lib.hid fun j => seqN_len _ (smallL_take l j hsm) true
 have HSE : Hid (l.take l.length = l):=Lib.hid List.take_length
 have HST : Hid (∀ j (h : j < l.length),sizeL (l.take j) + sizeN (l.getD j dNd) <= sizeL l):=Lib.hid (sizeL_take l)
 have HSA : Hid (∀ j (h : j < l.length),seqN true (l.take (j + 1)) = seqN true (l.take j) ++ ((if true = true /\ j = 0 then [] else [44,32]) ++ rowN (l.getD j dNd))):=Lib.hid (seq_at l true)
 have HSM : Hid (∀ j (h : j < l.length),smallT (l.getD j dNd) /\ shaped (l.getD j dNd) = true):=Lib.hid fun j h => by
  rw [getDn h]
  exact ⟨smallL_mem.1 hsm _ (List.getElem_mem h),shapedL_mem.1 hsh _ (List.getElem_mem h)⟩
 have hopu : (Value.int .u8 (op.toNat : Int)).oneCell' = true:=rfl
 have HA:=Lib.hid hA
 have HIH : Hid (∀ j (h : j < l.length),FormAt (l.getD j dNd)):=Lib.hid fun j h => by rw [getDn h]; exact ih _ (List.getElem_mem h)
 have hlw : Below base w w:=Below.refl _ _
 clear hA hsm hsh hkids ih
 go_enter Tryz.func66,Tryz.ntmps66
 go_wp2_with (first
  | (at_builtin; refine Qt.wp_appS rfl _ _ 39 rfl base 5 (.int .u8 0) 1 Tryz.underlying39 Tryz.info5 rfl _ _ [.int .u8 (op.toNat : Int)] rfl (by exact ho.alloc _) (by simp [Value.oneCell']) ⟨w.heap.size,0,none⟩ 1 1 rfl rfl (Qt.cells_new w [.int .u8 (op.toNat : Int)] 5) (by simp [maxLen]; omega) (by simp; omega) (by simp; omega) ?_; intro v2 w2 hown2 hb2))
 have HO2 : Hid (ORow w2 base 5 v2 ((xs ++ op :: seqN true (l.take 0)).map bV)):=Lib.hid (by
  have : (xs ++ op :: seqN true (l.take 0)).map bV = xs.map bV ++ [.int .u8 (op.toNat : Int)]:=by simp [seqN,bV]
  rw [this]
  exact hown2)
 have HB2 : Hid (Below base w w2):=Lib.hid ((hlw.alloc hbase _).trans hb2)
 clear hown2 hb2 ho hlw
 go_loopw [0,17] (fun v i wr => ∃ j : Nat,j <= l.length /\ i = .int .i64 (j : Int) /\ Hid (ORow wr base 5 v ((xs ++ op :: seqN true (l.take j)).map bV)) /\ Hid (Below base w wr)) (fun _ i _ => l.length - (intOf i).toNat)
 case atStart => exact ⟨0,Nat.zero_le _,rfl,HO2,HB2⟩
 case round =>
  obtain ⟨j,hj,rfl,HO,HW⟩:=hrel
  have hA':=HA.out.low (w':=wr) (fun q hq => HW.out.block q hq)
  obtain ⟨_,_,hkids⟩:=(NAt.def_ _ _ _).1 hA'
  simp only [Nd.kids] at hkids
  have hsj:=HSL.out j
  by_cases hlt : j < l.length
  case pos =>
   obtain ⟨b,o,rfl,hbo,hkid⟩:=hkids (by omega)
   have hk1:=hkid j hlt
   rw [<- getDn hlt] at hk1
   obtain ⟨B,cB,q0,q1,q2,q3,hn1⟩:=hk1
   have hjc : j < c:=by omega
   have hst:=HST.out j hlt
   have hsa:=HSA.out j hlt
   obtain ⟨hms,hmsh⟩:=HSM.out j hlt
   have hih:=HIH.out j hlt
   clear hkid hkids hA' HSE HST HSA HSM HIH HSL HO2 HB2
   unfold FormAt at hih
   generalize l.getD j dNd = kd at *
   obtain ⟨P,hP⟩ : ∃ P,xs ++ op :: seqN true (l.take j) = P:=⟨_,rfl⟩
   have hPl : P.length + sizeN kd * 1048900 + 1000 <= 100000000000:=by rw [<- hP]; simp only [List.length_append,List.length_cons]; omega
   have HN : Hid (∀ X,X = (if j = 0 then ([] : List UInt8) else [44,32]) -> xs ++ op :: seqN true (l.take (j + 1)) = (P ++ X) ++ rowN kd):=Lib.hid (by
    rintro X rfl
    rw [hsa,<- hP]
    simp [List.append_assoc])
   rw [hP] at HO
   clear hsa hst hsj hP
   have hwl:=Nat.le_trans hbase HW.out.size
   have alk:=al_nd wr #[.int .i64 kd.k,.string kd.t,.string kd.v,.slice B kd.kids.length cB]
   have bX:=Blk.new wr 24 #[.int .i64 kd.k,.string kd.t,.string kd.v,.slice B kd.kids.length cB]
   have hO1 : ORow _ base 5 _ (P.map bV):=HO.out.alloc (.cells #[.int .i64 kd.k,.string kd.t,.string kd.v,.slice B kd.kids.length cB] 24)
   have hne : ∀ g,(u0 : Value).ownBlock = some g -> g < wr.heap.size:=fun g hg => (World.ownsRow.lt HO.out g hg).2
   have HNW:=Lib.hid (hn1.below alk)
   by_cases hj0 : j = 0
   case pos =>
    have HZ:=Lib.hid (HN.out [] (by rw [if_pos hj0]))
    have hz : ¬ 0 < j:=by omega
    obtain ⟨x0,x1,x2,x3⟩:=nbox bX
    have hC:=hih base u0 P B cB _ HNW.out hms hmsh hO1 (Nat.le_trans hwl alk.size) (by omega)
    clear HN hih bX hn1 hO1 hj0
    go_wp2_with fail
    refine hC.mono ?_
    rintro e w3 ⟨v3,rfl,hO3,hB3⟩
    have HB3:=Lib.hid ((HW.out.trans (alk.mono hwl)).trans hB3)
    clear hB3 alk hC
    go_wp2
    go_roundw
    case rel => exact ⟨j + 1,by omega,by go_num,Lib.hid (by rw [HZ.out,List.append_nil]; exact hO3),HB3⟩
    case measure => first | (simp [intOf]; done) | (simp [intOf]; omega)
   case neg =>
    have HZ:=Lib.hid (HN.out [44,32] (by rw [if_neg hj0]))
    have hz : 0 < j:=by omega
    have hwa:=Nat.le_trans hwl alk.size
    clear HN hj0
    go_wp2_with (first
     | (at_builtin; refine wp_appT rfl _ _ 39 9 rfl base 5 Tryz.underlying39 Tryz.underlying9 Tryz.info5 _ P rfl hO1 ⟨#[44,32]⟩ rfl (show P.length + 2 <= _ by omega) hwa ?_; intro v2 w2 hown2 hg2 hb2; have bX2:=bX.grown hg2 (fun e => by have:=hne _ e.symm; omega); obtain ⟨x0,x1,x2,x3⟩:=nbox bX2))
    have hC:=hih base v2 (P ++ [44,32]) B cB w2 (HNW.out.low (fun q hq => hb2.block q hq)) hms hmsh hown2 (Nat.le_trans hwa hb2.size) (by simp only [List.length_append,List.length_cons,List.length_nil]; omega)
    have HBB:=Lib.hid ((HW.out.trans (alk.mono hwl)).trans hb2)
    clear hih bX hn1 hO1 bX2 hg2 hb2 hown2 alk
    go_wp2_with fail
    refine hC.mono ?_
    rintro e w3 ⟨v3,rfl,hO3,hB3⟩
    have HB3:=Lib.hid (HBB.out.trans hB3)
    clear hB3 hC
    go_wp2
    go_roundw
    case rel => exact ⟨j + 1,by omega,by go_num,Lib.hid (by rw [HZ.out]; exact hO3),HB3⟩
    case measure => first | (simp [intOf]; done) | (simp [intOf]; omega)
  case neg =>
   obtain rfl : j = l.length:=by omega
   have hse:=HSE.out
   rw [hse] at HO hsj
   clear hkids hA' hse
   have hwl:=Nat.le_trans hbase HW.out.size
   have hO1:=HO.out
   have hlen : (xs ++ op :: seqN true l).length + 1000 <= 100000000000:=by
    simp only [List.length_append,List.length_cons]
    omega
   obtain ⟨P,hP⟩ : ∃ P,xs ++ op :: seqN true l = P:=⟨_,rfl⟩
   have HP:=Lib.hid hP
   rw [hP] at hO1 hlen
   clear hP HO
   go_wp2_with (first
    | (at_builtin; refine Qt.wp_appS rfl _ _ 39 rfl base 5 (.int .u8 0) 1 Tryz.underlying39 Tryz.info5 rfl _ _ [.int .u8 (cl.toNat : Int)] rfl (by exact hO1.alloc _) (by simp [Value.oneCell']) ⟨wr.heap.size,0,none⟩ 1 1 rfl rfl (Qt.cells_new wr [.int .u8 (cl.toNat : Int)] 5) (by simp only [List.length_map,maxLen]; omega) (by simp only [List.length_map]; omega) (Nat.le_trans hwl (by simp)) ?_; intro v5 w5 hown5 hb5))
   have HO5 : Hid (ORow w5 base 5 v5 ((xs ++ op :: (seqN true l ++ [cl])).map bV)):=Lib.hid (by
    have : (xs ++ op :: (seqN true l ++ [cl])).map bV = P.map bV ++ [.int .u8 (cl.toNat : Int)]:=by rw [<- HP.out]; simp [bV]
    rw [this]
    exact hown5)
   have HB5 : Hid (Below base w w5):=Lib.hid ((HW.out.alloc hwl _).trans hb5)
   clear hown5 hb5 hO1
   go_wp2
   go_ret
   exact ⟨_,rfl,HO5.out,HB5.out⟩
theorem pay_any (b : Int) (h0 : 0 <= b) (h1 : b <= 255) (w : World) :
 Calls Tryz.prog 167 #[.int .u8 b] w fun e w' => e = .returned (.int .i64 (payI b)) /\ w = w':=by
 have e6:=u8_and63 b h0 (show b < 256 by omega)
 have e5:=u8_and31 b h0 (show b < 256 by omega)
 have e4:=u8_and15 b h0 (show b < 256 by omega)
 have e3:=u8_and7 b h0 (show b < 256 by omega)
 go_enter Tryz.func167,Tryz.ntmps167
 go_wp2
 all_goals go_ret
 all_goals refine ⟨ret_int ?_,rfl⟩
 all_goals simp only [payI]
 all_goals repeat (first | rw [if_pos (by omega)] | rw [if_neg (by omega)])
theorem num_join (st : Rn) (h : RnInv st) (c : Int) (h0 : 0 <= c) (h1 : c <= 255) (hok : stOk st.l st.lo st.hi c = true) : bits .or .i64 (st.num * 64) (payI c) = st.num * 64 + payI c:=by
 rcases h with ⟨hl,hn⟩ | ⟨hl,hl3,hn0,hlo,hhi,h3,h2,h1'⟩
 ·have hp : 0 <= payI c /\ payI c < 128:=by unfold payI; repeat' split <;> omega
  rw [hn]
  exact bits_join .i64 63 (by decide) (fun n a b => by rw [IntKind.wrap_i64]; omega) 7 (0 * 64) (payI c) (by decide) (by decide) (by decide) hp.1 (by omega) (by omega)
 ·have hl0 : 0 < st.l:=by omega
  simp only [stOk,hl0,if_true,decide_eq_true_eq] at hok
  have hp : payI c = c % 64:=by unfold payI; rw [if_neg (by omega),if_pos (by omega)]
  have hb : st.num < 32768:=by
   rcases (show st.l = 1 \/ st.l = 2 \/ st.l = 3 from by omega) with h | h | h
   ·exact h1' h
   ·have:=h2 h; omega
   ·have:=h3 h; omega
  exact bits_join .i64 63 (by decide) (fun n a b => by rw [IntKind.wrap_i64]; omega) 6 (st.num * 64) (payI c) (by omega) (by omega) (by omega) (by omega) (by omega) (by omega)
set_option maxHeartbeats 1000000 in
theorem runes_any (s : ByteArray) (w : World) (hm : s.size <= 1099511627776) :
 Calls Tryz.prog 150 #[.string s] w (RunesPost w s.data.toList):=by
 go_enter Tryz.func150,Tryz.ntmps150
 go_wp2_with (first
  | (go_at_call 101; refine (new_any _).mono ?_; rintro e w' ⟨rfl,rfl⟩))
 go_loopw [4,6,11] (fun v nm i wr => ∃ (k : Nat) (st : Rn),k <= s.size /\ i = .int .i64 k /\ nm = .int .i64 st.num /\ ScanAt wr w.heap.size st.l st.lo st.hi /\ ORow wr (w.heap.size + 1) 3 v (st.out.map iV) /\ Below w.heap.size w wr /\ RnInv st /\ st.out.length <= k /\ Hid (runesL s.data.toList = runesGo st (s.data.toList.drop k))) (fun _ _ i _ => s.size - (intOf i).toNat)
 case atStart => exact ⟨0,rn0 [],Nat.zero_le _,rfl,rfl,Blk.new w _ _,ORow.nil _ _ _,(Below.refl _ _).alloc (Nat.le_refl _) _,.inl ⟨rfl,rfl⟩,by simp [rn0],Lib.hid rfl⟩
 case round =>
  obtain ⟨k,st,hk,rfl,rfl,hsc,hown,hbel,hinv,hlen,HR⟩:=hrel
  have hl03 : 0 <= st.l /\ st.l <= 3:=by rcases hinv with ⟨a,_⟩ | ⟨a,b,_⟩ <;> omega
  by_cases hlt : k < s.size
  ·have hle:=byte_le s[k]
   have hdc:=drop_cons s k hlt
   by_cases hok : stOk st.l st.lo st.hi s[k].toNat = true
   ·have HK:=Lib.hid hok
    have hj:=num_join st hinv s[k].toNat (by omega) hle hok
    clear hok
    go_wp2_with fail
    refine (step_any _ _ _ _ _ _ hsc hl03.1 hl03.2 (by omega) hle).mono ?_
    rintro e w1 ⟨rfl,hg1,hs1⟩
    rw [HK.out]
    rw [if_pos HK.out] at hs1
    have hnb : 0 <= st.num /\ st.num < 32768:=by
     rcases hinv with ⟨_,a⟩ | ⟨a,b,c,_,_,d3,d2,d1⟩
     ·omega
     ·refine ⟨c,?_⟩
      rcases (show st.l = 1 \/ st.l = 2 \/ st.l = 3 from by omega) with h | h | h
      ·exact d1 h
      ·have:=d2 h; omega
      ·have:=d3 h; omega
    obtain ⟨hn0,hn1⟩:=hnb
    have HJ:=Lib.hid hj
    clear hj
    go_wp2_with fail
    refine (pay_any _ (by omega) hle _).mono ?_
    rintro e w' ⟨rfl,rfl⟩
    go_wp2_with fail
    rw [HJ.out]
    have hrow1 : ORow w1 (w.heap.size + 1) 3 u4 (st.out.map iV):=hown.kept_far hg1 (by omega)
    have hbel1 : Below w.heap.size w w1:=below_only hbel hg1 hbel.size (Nat.le_refl _)
    have hbs1 : w.heap.size + 1 <= w1.heap.size:=by have:=hg1.size; have:=hsc.lt; omega
    have hgo : runesL s.data.toList = match rnStep st (s[k].toNat : Int) with | none => none | some s' => runesGo s' (s.data.toList.drop (k + 1)):=by rw [HR.out,hdc]; rfl
    have hle' : 0 <= (s[k].toNat : Int):=by omega
    clear hg1 hsc hown hbel hdc
    by_cases hz : stL st.l s[k].toNat = 0
    ·have hst : rnStep st (s[k].toNat : Int) = some ⟨stL st.l s[k].toNat,stLo st.l s[k].toNat,stHi st.l s[k].toNat,0,st.out ++ [st.num * 64 + payI s[k].toNat]⟩:=by
      unfold rnStep; rw [if_pos HK.out,if_pos hz]
     have hinv1:=rnInv_step hinv hle' hle hst
     rw [hst] at hgo
     have HG:=Lib.hid hgo
     have HZ:=Lib.hid (show decide (stL st.l s[k].toNat = 0) = true by simpa using hz)
     clear hgo hst hz
     refine (whole_any _ _ _ _ _ hs1).mono ?_
     rintro e w' ⟨rfl,rfl⟩
     rw [HZ.out]
     go_wp2_with (first
      | (at_builtin; refine wp_app1 rfl _ _ 27 rfl (w.heap.size + 1) 3 (.int .i64 0) 8 Tryz.underlying27 Tryz.info3 rfl u4 _ _ rfl (by exact hrow1) rfl _ rfl (by simp [maxLen]; omega) (by simp; omega) (by omega) ?_; intro v2 w2 hown2 hb2 hn2))
     have hrow2 : ORow w2 (w.heap.size + 1) 3 v2 ((st.out ++ [st.num * 64 + payI s[k].toNat]).map iV):=by simpa [iV] using hown2
     have hs2 : ScanAt w2 w.heap.size (stL st.l s[k].toNat) (stLo st.l s[k].toNat) (stHi st.l s[k].toNat):=Blk.grown hs1 hb2 (hrow1.not_own (by omega))
     have hbel2 : Below w.heap.size w w2:=below_row hbel1 hb2 hrow1 (by omega) (by omega)
     clear hown2 hb2 hn2 hs1 hrow1 hbel1
     go_wp2
     go_roundw
     case rel => exact ⟨k + 1,_,by omega,by go_num,rfl,hs2,hrow2,hbel2,hinv1,by simp; omega,HG⟩
     case measure => simp [intOf]; omega
    ·have hst : rnStep st (s[k].toNat : Int) = some ⟨stL st.l s[k].toNat,stLo st.l s[k].toNat,stHi st.l s[k].toNat,st.num * 64 + payI s[k].toNat,st.out⟩:=by
      unfold rnStep; rw [if_pos HK.out,if_neg hz]
     have hinv1:=rnInv_step hinv hle' hle hst
     rw [hst] at hgo
     have HG:=Lib.hid hgo
     have HZ:=Lib.hid (show decide (stL st.l s[k].toNat = 0) = false by simpa using hz)
     clear hgo hst hz
     refine (whole_any _ _ _ _ _ hs1).mono ?_
     rintro e w' ⟨rfl,rfl⟩
     rw [HZ.out]
     go_wp2
     go_roundw
     case rel => exact ⟨k + 1,⟨stL st.l s[k].toNat,stLo st.l s[k].toNat,stHi st.l s[k].toNat,st.num * 64 + payI s[k].toNat,st.out⟩,by omega,by go_num,rfl,hs1,hrow1,hbel1,hinv1,(by show st.out.length <= k + 1; omega),HG⟩
     case measure => simp [intOf]; omega
   ·have HK:=Lib.hid (show stOk st.l st.lo st.hi s[k].toNat = false by simpa using hok)
    have hnone : runesL s.data.toList = none:=by
     rw [HR.out,hdc]
     simp only [runesGo,rnStep]
     rw [if_neg hok]
    have HN:=Lib.hid hnone
    clear hnone hok hdc
    go_wp2_with fail
    refine (step_any _ _ _ _ _ _ hsc hl03.1 hl03.2 (by omega) hle).mono ?_
    rintro e w1 ⟨rfl,hg1,hs1⟩
    rw [HK.out]
    go_wp2
    go_ret2
    exact runesPost_none HN.out (below_only hbel hg1 hbel.size (Nat.le_refl _))
  ·have hkn : k = s.size:=by omega
   subst hkn
   have hfin : runesL s.data.toList = if st.l = 0 then some st.out else none:=by
    rw [HR.out,List.drop_eq_nil_of_le (by simp)]
    rfl
   by_cases hz : st.l = 0
   ·have HN:=Lib.hid (show runesL s.data.toList = some st.out by rw [hfin,if_pos hz])
    have HZ:=Lib.hid (show decide (st.l = 0) = true by simpa using hz)
    clear hfin hz
    go_wp2_with (first
     | (go_at_call 109; refine (whole_any _ _ _ _ _ hsc).mono ?_; rintro e w' ⟨rfl,rfl⟩; rw [HZ.out]))
    go_ret2
    exact runesPost_some HN.out (hown.mono (by omega)) hbel
   ·have HN:=Lib.hid (show runesL s.data.toList = none by rw [hfin,if_neg hz])
    have HZ:=Lib.hid (show decide (st.l = 0) = false by simpa using hz)
    clear hfin hz
    go_wp2_with (first
     | (go_at_call 109; refine (whole_any _ _ _ _ _ hsc).mono ?_; rintro e w' ⟨rfl,rfl⟩; rw [HZ.out]))
    go_ret2
    exact runesPost_none HN.out hbel
end Go.Proofs.YtbnppjmmlfncmaaGreatDoor
namespace Go.Proofs.YtbnppjmmlfncmaaGreatDoor.Nm
open Go.RowKit
theorem ret_bool {a b : Bool} (h : a = b) : Ending.returned (.bool a) = .returned (.bool b):=by rw [h]
theorem ret_int {k : IntKind} {a b : Int} (h : a = b) : Ending.returned (.int k a) = .returned (.int k b):=by rw [h]
theorem digit_any (a : Int) (w : World) :
 Calls Tryz.prog 189 #[.int .i64 a] w fun e w' => e = .returned (.int .i64 (dgI a)) /\ w = w':=by
 go_enter Tryz.func189,Tryz.ntmps189
 go_wp2
 all_goals go_ret
 all_goals refine ⟨ret_int ?_,rfl⟩
 all_goals unfold dgI
 all_goals repeat' split
 all_goals first | rfl | (exfalso; simp_all; done) | (exfalso; simp_all; omega)
theorem compl_any (a : Int) (w : World) :
 Calls Tryz.prog 182 #[.int .i64 a] w fun e w' => e = .returned (.bool (compB a)) /\ w = w':=by
 go_enter Tryz.func182,Tryz.ntmps182
 go_wp2
 all_goals go_ret
 all_goals refine ⟨ret_bool ?_,rfl⟩
 all_goals unfold compB
 all_goals first | (refine (decide_eq_true ?_).symm; simp_all; done) | (refine (decide_eq_false ?_).symm; simp_all; done)
set_option maxHeartbeats 2000000 in
theorem step_any (a b : Int) (w : World) :
 Calls Tryz.prog 181 #[.int .i64 a,.int .u8 b] w fun e w' => e = .returned (.int .i64 (stepI a b)) /\ w = w':=by
 go_enter Tryz.func181,Tryz.ntmps181
 go_wp2_with (go_at_call 189; refine (digit_any _ _).mono ?_; rintro e w' ⟨rfl,rfl⟩)
 all_goals go_ret
 all_goals refine ⟨ret_int ?_,rfl⟩
 all_goals simp only [beq_iff_eq,beq_eq_false_iff_ne,ne_eq] at *
 all_goals unfold stepI
 all_goals repeat' split
 all_goals first | rfl | omega
theorem may_any (s : ByteArray) (w : World) (hm : s.size <= 9223372036854775807) :
 Calls Tryz.prog 175 #[.string s] w fun e w' => e = .returned (.tuple #[.bool (begB s.data.toList),.bool (isB s.data.toList)]) /\ w = w':=by
 go_enter Tryz.func175,Tryz.ntmps175
 go_wp2
 go_loop [4,5] (fun a i => ∃ k : Nat,k <= s.size /\ i = .int .i64 k /\ a = .int .i64 (mst 1 (s.data.toList.take k))) (fun _ i => s.size - (intOf i).toNat)
 case atStart => exact ⟨0,Nat.zero_le _,rfl,rfl⟩
 case round =>
  obtain ⟨k,hk,rfl,rfl⟩:=hrel
  generalize hM : mst 1 (s.data.toList.take k) = M
  have HM:=Lib.hid hM
  clear hM
  by_cases hlt : k < s.size
  ·by_cases h0 : M = 0
   ·have hb : (M != 0) = false:=by simp [h0]
    have hfin : mst 1 s.data.toList = 0:=by
     rw [<- List.take_append_drop k s.data.toList,mst_append,HM.out,h0,mst_0]
    have HF:=Lib.hid hfin
    have H0:=Lib.hid h0
    clear hfin h0
    go_wp2_with (first | (go_at_call 182; refine (compl_any _ _).mono ?_; rintro e w' ⟨rfl,rfl⟩))
    go_ret2
    refine ⟨?_,rfl⟩
    unfold begB isB
    rw [HF.out,H0.out]
    rfl
   ·have hb : (M != 0) = true:=by simpa using h0
    have hts : mst 1 (s.data.toList.take (k + 1)) = stepI M (s[k].toNat : Int):=by
     rw [List.take_succ_eq_append_getElem (by simpa using hlt),mst_snoc,HM.out]
     rfl
    have HT:=Lib.hid hts
    clear hts h0
    go_wp2_with (first | (go_at_call 181; refine (step_any _ _ _).mono ?_; rintro e w' ⟨rfl,rfl⟩))
    go_round
    case rel => exact ⟨k + 1,by omega,by go_num,by rw [HT.out]⟩
    case measure => simp [intOf]; omega
  ·have hfin : begB s.data.toList = (M != 0) /\ isB s.data.toList = compB M:=by
    have h1 : mst 1 s.data.toList = M:=by rw [<- HM.out,List.take_of_length_le (by simp; omega)]
    unfold begB isB
    rw [h1]
    exact ⟨by rw [Bool.eq_iff_iff]; simp,rfl⟩
   have HF:=Lib.hid hfin
   clear hfin
   go_wp2_with (first | (go_at_call 182; refine (compl_any _ _).mono ?_; rintro e w' ⟨rfl,rfl⟩))
   all_goals go_ret2
   all_goals refine ⟨?_,rfl⟩
   all_goals rw [HF.out.1,HF.out.2]
   all_goals rfl
end Go.Proofs.YtbnppjmmlfncmaaGreatDoor.Nm
