/-
  Nodes as they lie in memory: a value of four cells, its kids in a row; what keeps them; what reads them.
  tree: formed, endOf, walk; the reference's End.
  carry: elements within a node, the program's and the reference's.
  A range over a function whose rounds write memory, and which may stand in one another: what a round keeps is a relation; what the function turns between two rounds is told by the objects' kinds. No program is read here.
-/
import Derived.Test.YtbnppjmmlfncmaaGreatDoorCsA03
import Derived.Test.YtbnppjmmlfncmaaGreatDoorCsA07
import Derived.Test.YtbnppjmmlfncmaaGreatDoorCsA04
import Derived.Test.YtbnppjmmlfncmaaGreatDoorCsA05
import Derived.RangeFuncFrom
import Derived.RangeFuncNested
import Derived.RangeFuncCalls
import Derived.RangeFuncLeaves
set_option maxRecDepth 100000
namespace Go.Proofs.YtbnppjmmlfncmaaGreatDoor
open Go.RowKit
def ndC (n : Nd) (A : Option Addr) (c : Nat) : List Value:=[.int .i64 n.k,.string n.t,.string n.v,.slice A n.kids.length c]
mutual
def NAt (S : Nat -> Nat -> Prop) (w : World) : Nd -> Option Addr -> Nat -> Prop
 | .mk _ _ _ kids,A,c => kids.length <= c /\ c <= maxLen /\ (0 < kids.length -> ∃ b o,A = some ⟨b,o,none⟩ /\ S b o /\ KAt S w b o kids)
def KAt (S : Nat -> Nat -> Prop) (w : World) (b : Nat) : Nat -> List Nd -> Prop
 | _,[] => True
 | o,n :: r => (∃ A c,w.cell? ⟨b,o,none⟩ = some (.int .i64 n.k) /\ w.cell? ⟨b,o + 1,none⟩ = some (.string n.t) /\ w.cell? ⟨b,o + 2,none⟩ = some (.string n.v) /\ w.cell? ⟨b,o + 3,none⟩ = some (.slice A n.kids.length c) /\ NAt S w n A c) /\ KAt S w b (o + 4) r
end
def KidAt (S : Nat -> Nat -> Prop) (w : World) (b o : Nat) (n : Nd) : Prop :=
 ∃ A c,w.cell? ⟨b,o,none⟩ = some (.int .i64 n.k) /\ w.cell? ⟨b,o + 1,none⟩ = some (.string n.t) /\ w.cell? ⟨b,o + 2,none⟩ = some (.string n.v) /\ w.cell? ⟨b,o + 3,none⟩ = some (.slice A n.kids.length c) /\ NAt S w n A c
section
variable {S S' : Nat -> Nat -> Prop} {w w' : World}
theorem KAt.get {b : Nat} : ∀ {o : Nat} {l : List Nd},KAt S w b o l -> ∀ j (h : j < l.length),KidAt S w b (o + j * 4) l[j]
 | o,n :: r,h,0,_ => by
  have:=h.1
  simpa [KidAt] using this
 | o,n :: r,h,j + 1,hj => by
  have:=KAt.get h.2 j (by simpa using hj)
  rw [show o + (j + 1) * 4 = o + 4 + j * 4 by omega]
  exact this
theorem KAt.of {b : Nat} : ∀ {o : Nat} {l : List Nd},(∀ j (h : j < l.length),KidAt S w b (o + j * 4) l[j]) -> KAt S w b o l
 | _,[],_ => trivial
 | o,n :: r,h => by
  refine ⟨by have:=h 0 (by simp); simpa [KidAt] using this,KAt.of fun j hj => ?_⟩
  have:=h (j + 1) (by simpa using hj)
  rw [show o + 4 + j * 4 = o + (j + 1) * 4 by omega]
  exact this
theorem NAt.def_ (n : Nd) (A : Option Addr) (c : Nat) : NAt S w n A c ↔ n.kids.length <= c /\ c <= maxLen /\ (0 < n.kids.length -> ∃ b o,A = some ⟨b,o,none⟩ /\ S b o /\ ∀ j (h : j < n.kids.length),KidAt S w b (o + j * 4) n.kids[j]):=by
 cases n with
 | mk k t v kids =>
  simp only [NAt,Nd.kids]
  constructor
  ·rintro ⟨h1,h2,h3⟩
   refine ⟨h1,h2,fun hp => ?_⟩
   obtain ⟨b,o,hA,hS,hk⟩:=h3 hp
   exact ⟨b,o,hA,hS,hk.get⟩
  ·rintro ⟨h1,h2,h3⟩
   refine ⟨h1,h2,fun hp => ?_⟩
   obtain ⟨b,o,hA,hS,hk⟩:=h3 hp
   exact ⟨b,o,hA,hS,KAt.of hk⟩
theorem NAt.keep {n : Nd} : ∀ {A : Option Addr} {c : Nat},NAt S w n A c -> (∀ b o,S b o -> (∃ i u,w.cell? ⟨b,i,none⟩ = some u) -> (∀ i u,w.cell? ⟨b,i,none⟩ = some u -> w'.cell? ⟨b,i,none⟩ = some u) /\ S' b o) -> NAt S' w' n A c:=by
 induction n using Nd.ind with
 | h k t v kids ih =>
  intro A c h hk
  rw [NAt.def_] at h ⊢
  obtain ⟨h1,h2,h3⟩:=h
  refine ⟨h1,h2,fun hp => ?_⟩
  obtain ⟨b,o,hA,hS,hg⟩:=h3 hp
  have hb : (∀ i u,w.cell? ⟨b,i,none⟩ = some u -> w'.cell? ⟨b,i,none⟩ = some u) /\ S' b o:=by
   obtain ⟨A',c',c0,_⟩:=hg 0 hp
   exact hk b o hS ⟨_,_,c0⟩
  refine ⟨b,o,hA,hb.2,fun j hj => ?_⟩
  obtain ⟨A',c',c0,c1,c2,c3,hn⟩:=hg j hj
  exact ⟨A',c',hb.1 _ _ c0,hb.1 _ _ c1,hb.1 _ _ c2,hb.1 _ _ c3,ih _ (List.getElem_mem hj) hn hk⟩
theorem NAt.weaken {n : Nd} {A : Option Addr} {c : Nat} (h : NAt S w n A c) (hs : ∀ b o,S b o -> S' b o) : NAt S' w n A c:=h.keep fun b o hb _ => ⟨fun _ _ hu => hu,hs b o hb⟩
theorem NAt.below {n : Nd} {A : Option Addr} {c : Nat} (h : NAt S w n A c) (hb : Below w.heap.size w w') : NAt S w' n A c :=
 h.keep fun _ _ hs _ => ⟨fun _ _ hu => (hb.cell (cell_lt hu)).trans hu,hs⟩
theorem NAt.lt {n : Nd} {A : Option Addr} {c : Nat} (h : NAt S w n A c) : NAt (fun b o => S b o /\ b < w.heap.size) w n A c:=h.keep fun _ _ hs ⟨_,_,hc⟩ => ⟨fun _ _ hu => hu,hs,cell_lt hc⟩
theorem NAt.leaf (S : Nat -> Nat -> Prop) (w : World) (k : Int) (t v : ByteArray) (A : Option Addr) : NAt S w (.mk k t v []) A 0:=by
 rw [NAt.def_]; exact ⟨Nat.le_refl _,Nat.zero_le _,fun h => absurd h (by simp [Nd.kids])⟩
theorem KidAt.keep {n : Nd} {b o : Nat} (h : KidAt S w b o n) (hb : ∀ i u,w.cell? ⟨b,i,none⟩ = some u -> w'.cell? ⟨b,i,none⟩ = some u) (hk : ∀ b o,S b o -> (∃ i u,w.cell? ⟨b,i,none⟩ = some u) -> (∀ i u,w.cell? ⟨b,i,none⟩ = some u -> w'.cell? ⟨b,i,none⟩ = some u) /\ S' b o) : KidAt S' w' b o n:=by
 obtain ⟨A,c,c0,c1,c2,c3,hn⟩:=h
 exact ⟨A,c,hb _ _ c0,hb _ _ c1,hb _ _ c2,hb _ _ c3,hn.keep hk⟩
theorem kid_cells {n : Nd} {b o : Nat} (h : KidAt S w b o n) (hb : Below w.heap.size w w') : KidAt S w' b o n :=
 h.keep (fun _ _ hu => (hb.cell (cell_lt hu)).trans hu) (fun _ _ hs _ => ⟨fun _ _ hu => (hb.cell (cell_lt hu)).trans hu,hs⟩)
theorem NAt.low {n : Nd} {A : Option Addr} {c B : Nat} (h : NAt (fun b _ => b < B) w n A c) (hb : ∀ k,k < B -> w'.heap[k]? = w.heap[k]?) : NAt (fun b _ => b < B) w' n A c :=
 h.keep fun b _ hs _ => ⟨fun _ _ hu => by
  rw [<- hu]
  unfold World.cell?
  rw [hb b hs],hs⟩
end
def NBox (w : World) (g : Nat) (n : Nd) (A : Option Addr) (c : Nat) : Prop:=Blk w g 24 #[.int .i64 n.k,.string n.t,.string n.v,.slice A n.kids.length c]
theorem NBox.cells {w : World} {g : Nat} {n : Nd} {A : Option Addr} {c : Nat} (h : NBox w g n A c) :
 w.cell? ⟨g,0,none⟩ = some (.int .i64 n.k) /\ w.cell? ⟨g,1,none⟩ = some (.string n.t) /\ w.cell? ⟨g,2,none⟩ = some (.string n.v) /\ w.cell? ⟨g,3,none⟩ = some (.slice A n.kids.length c) :=
 ⟨Blk.cell h 0,Blk.cell h 1,Blk.cell h 2,Blk.cell h 3⟩
def okN (n : Nd) : Prop:=-9223372036854775808 <= n.k /\ n.k <= 9223372036854775807 /\ n.t.size <= 140737488355328 /\ n.v.size <= 140737488355328
mutual
def okT : Nd -> Prop
 | .mk k t v kids => okN (.mk k t v kids) /\ kids.length <= 1000000000000 /\ okTL kids
def okTL : List Nd -> Prop
 | [] => True
 | n :: r => okT n /\ okTL r
end
theorem okTL_mem : ∀ {l : List Nd},okTL l ↔ ∀ n ∈ l,okT n
 | [] => by simp [okTL]
 | n :: r => by simp only [okTL,okTL_mem (l:=r),List.mem_cons,forall_eq_or_imp]
theorem okT.head {n : Nd} (h : okT n) : okN n:=by cases n; exact h.1
theorem okT.kids {n : Nd} (h : okT n) : ∀ m ∈ n.kids,okT m:=by cases n; exact okTL_mem.1 h.2.2
theorem okT.len {n : Nd} (h : okT n) : n.kids.length <= 1000000000000:=by cases n; exact h.2.1
def endI (k : Int) : Int:=if k = 5 then 6 else if k = 7 then 9 else if k = 10 then 12 else 0
theorem endI_opens (k : Int) : (opensK k = true -> endI k = endK k /\ endI k ≠ 0) /\ (opensK k = false -> endI k = 0):=by
 unfold opensK endI endK
 rw [decide_eq_true_iff,decide_eq_false_iff_not]
 constructor
 ·rintro (rfl | rfl | rfl) <;> decide
 ·intro h
  rw [if_neg (by omega),if_neg (by omega),if_neg (by omega)]
theorem ibeq {a b : Int} (h : a ≠ b) : (a == b) = false:=by rw [beq_eq_false_iff_ne]; exact h
theorem ibne {a b : Int} (h : a ≠ b) : (a != b) = true:=by simp [bne,h]
theorem endOf_any (k : Int) (w : World) : Calls Tryz.prog 77 #[.int .i64 k] w fun e w' => e = .returned (.int .i64 (endI k)) /\ w' = w:=by
 by_cases h5 : k = 5
 ·subst h5
  go_enter Tryz.func77,Tryz.ntmps77
  go_wp2; go_ret; exact ⟨rfl,rfl⟩
 by_cases h7 : k = 7
 ·subst h7
  go_enter Tryz.func77,Tryz.ntmps77
  go_wp2; go_ret; exact ⟨rfl,rfl⟩
 by_cases h10 : k = 10
 ·subst h10
  go_enter Tryz.func77,Tryz.ntmps77
  go_wp2; go_ret; exact ⟨rfl,rfl⟩
 have he : endI k = 0:=by unfold endI; rw [if_neg h5,if_neg h7,if_neg h10]
 have d5:=ibeq h5
 have d7:=ibeq h7
 have d10:=ibeq h10
 rw [he]
 clear h5 h7 h10 he
 go_enter Tryz.func77,Tryz.ntmps77
 go_wp2; go_ret; exact ⟨rfl,rfl⟩
theorem rend_any (k : Int) (w : World) : Calls Tryz.prog 62 #[.int .i64 k] w fun e w' => e = .returned (.int .i64 (endI k)) /\ w' = w:=by
 by_cases h5 : k = 5
 ·subst h5
  go_enter Tryz.func62,Tryz.ntmps62
  go_wp2; go_ret; exact ⟨rfl,rfl⟩
 by_cases h7 : k = 7
 ·subst h7
  go_enter Tryz.func62,Tryz.ntmps62
  go_wp2; go_ret; exact ⟨rfl,rfl⟩
 by_cases h10 : k = 10
 ·subst h10
  go_enter Tryz.func62,Tryz.ntmps62
  go_wp2; go_ret; exact ⟨rfl,rfl⟩
 have he : endI k = 0:=by unfold endI; rw [if_neg h5,if_neg h7,if_neg h10]
 have d5:=ibeq h5
 have d7:=ibeq h7
 have d10:=ibeq h10
 rw [he]
 clear h5 h7 h10 he
 go_enter Tryz.func62,Tryz.ntmps62
 go_wp2; go_ret; exact ⟨rfl,rfl⟩
theorem shape_open {k : Int} (h : k = 5 \/ k = 7 \/ k = 10) (n : Nat) : okShape k n = true:=by
 unfold okShape opensK; rw [decide_eq_true h]; rfl
theorem shape_key (n : Nat) : okShape 8 n = decide (n = 1):=by simp [okShape,opensK,leafK]
theorem shape_leaf {k : Int} (h : k = 1 \/ k = 2 \/ k = 3 \/ k = 4 \/ k = 11) (n : Nat) : okShape k n = decide (n = 0):=by
 have h2 : opensK k = false:=by unfold opensK; rw [decide_eq_false_iff_not]; omega
 have h3 : leafK k = true:=by unfold leafK; rw [decide_eq_true_iff]; exact h
 have h8 : ¬ k = 8:=by omega
 simp [okShape,h2,h3,h8]
theorem shape_none {k : Int} (h1 : k ≠ 1) (h2 : k ≠ 2) (h3 : k ≠ 3) (h4 : k ≠ 4) (h5 : k ≠ 5) (h7 : k ≠ 7) (h8 : k ≠ 8) (h10 : k ≠ 10) (h11 : k ≠ 11) (n : Nat) : okShape k n = false:=by
 simp [okShape,opensK,leafK,h1,h2,h3,h4,h5,h7,h8,h10,h11]
theorem formed_tree (k : Int) (t v : ByteArray) (A : Option Addr) (n c : Nat) (w : World) :
 Calls Tryz.prog 75 #[.agg #[.int .i64 k,.string t,.string v,.slice A n c]] w fun e w' => e = .returned (.bool (okShape k n)) /\ Below w.heap.size w w':=by
 by_cases h5 : k = 5 \/ k = 7 \/ k = 10
 ·rw [shape_open h5]
  rcases h5 with rfl | rfl | rfl
  all_goals
   go_enter Tryz.func75,Tryz.ntmps75
   go_wp2
   go_ret
   exact ⟨rfl,(Below.refl _ _).alloc (Nat.le_refl _) _⟩
 by_cases h8 : k = 8
 ·subst h8
  rw [shape_key]
  clear h5
  by_cases h1 : n = 1
  ·subst h1
   go_enter Tryz.func75,Tryz.ntmps75
   go_wp2
   go_ret
   exact ⟨rfl,(Below.refl _ _).alloc (Nat.le_refl _) _⟩
  ·rw [decide_eq_false h1]
   have d1 : ((n : Int) == 1) = false:=ibeq (by omega)
   clear h1
   go_enter Tryz.func75,Tryz.ntmps75
   go_wp2
   go_ret
   exact ⟨rfl,(Below.refl _ _).alloc (Nat.le_refl _) _⟩
 by_cases h1 : k = 1 \/ k = 2 \/ k = 3 \/ k = 4 \/ k = 11
 ·rw [shape_leaf h1]
  clear h5 h8
  by_cases h0 : n = 0
  ·subst h0
   rcases h1 with rfl | rfl | rfl | rfl | rfl
   all_goals
    go_enter Tryz.func75,Tryz.ntmps75
    go_wp2
    go_ret
    exact ⟨rfl,(Below.refl _ _).alloc (Nat.le_refl _) _⟩
  ·rw [decide_eq_false h0]
   have d1 : ((n : Int) == 0) = false:=ibeq (by omega)
   clear h0
   rcases h1 with rfl | rfl | rfl | rfl | rfl
   all_goals
    go_enter Tryz.func75,Tryz.ntmps75
    go_wp2
    go_ret
    exact ⟨rfl,(Below.refl _ _).alloc (Nat.le_refl _) _⟩
 have e1 : k ≠ 1:=fun h => h1 (.inl h)
 have e2 : k ≠ 2:=fun h => h1 (.inr (.inl h))
 have e3 : k ≠ 3:=fun h => h1 (.inr (.inr (.inl h)))
 have e4 : k ≠ 4:=fun h => h1 (.inr (.inr (.inr (.inl h))))
 have e11 : k ≠ 11:=fun h => h1 (.inr (.inr (.inr (.inr h))))
 have e5 : k ≠ 5:=fun h => h5 (.inl h)
 have e7 : k ≠ 7:=fun h => h5 (.inr (.inl h))
 have e10 : k ≠ 10:=fun h => h5 (.inr (.inr h))
 rw [shape_none e1 e2 e3 e4 e5 e7 h8 e10 e11]
 have d1:=ibeq e1
 have d2:=ibeq e2
 have d3:=ibeq e3
 have d4:=ibeq e4
 have d5:=ibeq e5
 have d7:=ibeq e7
 have d8:=ibeq h8
 have d10:=ibeq e10
 have d11:=ibeq e11
 clear e1 e2 e3 e4 e5 e7 e10 e11 h1 h5 h8
 go_enter Tryz.func75,Tryz.ntmps75
 go_wp2
 go_ret
 exact ⟨rfl,(Below.refl _ _).alloc (Nat.le_refl _) _⟩
theorem twalk_any (k : Int) (t v : ByteArray) (A : Option Addr) (n c : Nat) (w : World) :
 Calls Tryz.prog 44 #[.agg #[.int .i64 k,.string t,.string v,.slice A n c]] w fun e w' =>
  e = .returned (.func (.func 74) #[] #[.pointer (some ⟨w.heap.size,0,none⟩)]) /\ w' = w.alloc (.cells #[.int .i64 k,.string t,.string v,.slice A n c] 24):=by
 go_enter Tryz.func44,Tryz.ntmps44
 go_wp2
 go_ret
 exact ⟨rfl,rfl⟩
open Go.RowKit Go.Maps
def AskAt (g : FuncId) (f : Nd -> Bool) (n : Nd) : Prop:=∀ (S : Nat -> Nat -> Prop) (A : Option Addr) (c : Nat) (w : World),NAt S w n A c ->
    Calls Tryz.prog g #[.agg #[.int .i64 n.k,.string n.t,.string n.v,.slice A n.kids.length c]] w fun e w' => e = .returned (.bool (f n)) /\ Below w.heap.size w w'
def findN (f : Nd -> Bool) (l : List Nd) : Int:=match l.findIdx? f with | some i => i | none => -1
theorem find_at {f : Nd -> Bool} {l : List Nd} {j : Nat} (h : j < l.length) (hn : (l.take j).any f = false) (hy : f l[j] = true) : findN f l = j:=by
 unfold findN
 have : l.findIdx? f = some j:=by
  rw [List.findIdx?_eq_some_iff_getElem]
  refine ⟨h,hy,fun i hi => ?_⟩
  have:=List.any_eq_false.1 hn (l[i]'(by omega)) (by rw [List.mem_take_iff_getElem]; exact ⟨i,by omega,rfl⟩)
  exact this
 rw [this]
theorem find_no {f : Nd -> Bool} {l : List Nd} (hn : l.any f = false) : findN f l = -1:=by
 unfold findN
 have : l.findIdx? f = none:=by
  rw [List.findIdx?_eq_none_iff]
  intro x hx
  simpa using List.any_eq_false.1 hn x hx
 rw [this]
theorem find_ge (f : Nd -> Bool) (l : List Nd) : decide (0 <= findN f l) = l.any f:=by
 cases h : l.any f with
 | false => rw [find_no h]; decide
 | true =>
  unfold findN
  obtain ⟨x,hx,hf⟩:=List.any_eq_true.1 h
  cases h2 : l.findIdx? f with
  | none =>
   rw [List.findIdx?_eq_none_iff] at h2
   rw [h2 x hx] at hf
   cases hf
  | some i => simp
theorem any_snoc (f : Nd -> Bool) (l : List Nd) (j : Nat) (h : j < l.length) : (l.take (j + 1)).any f = ((l.take j).any f || f l[j]):=by
 rw [List.take_succ_eq_append_getElem h,List.any_append,List.any_cons,List.any_nil,Bool.or_false]
set_option maxHeartbeats 4000000 in
theorem indexf_any (g : FuncId) (hef : ∀ args w,(callFunc g args).run Tryz.prog w = .ok (.enter g args) w) (f : Nd -> Bool) (l : List Nd) (ih : ∀ n ∈ l,AskAt g f n) (S : Nat -> Nat -> Prop) (k : Int) (t v : ByteArray) (A : Option Addr) (c : Nat) (w : World) (hA : NAt S w (.mk k t v l) A c) :
 Calls Tryz.prog 106 #[.slice A l.length c,.func (.func g) #[] #[]] w fun e w' => e = .returned (.int .i64 (findN f l)) /\ Below w.heap.size w w':=by
 obtain ⟨hlc,hcm,hkids⟩:=(NAt.def_ _ _ _).1 hA
 simp only [Nd.kids] at hlc hkids
 have hcm2 : c <= 9223372036854775807:=by simpa [maxLen] using hcm
 have HFA : Hid (∀ j (h : j < l.length),(l.take j).any f = false -> f (l.getD j dNd) = true -> findN f l = j):=Lib.hid fun j h h1 h2 => find_at h h1 (by rw [<- getDn h]; exact h2)
 have HFN : Hid (l.any f = false -> findN f l = -1):=Lib.hid find_no
 have HSN : Hid (∀ j (h : j < l.length),(l.take (j + 1)).any f = ((l.take j).any f || f (l.getD j dNd))):=Lib.hid fun j h => by rw [getDn h]; exact any_snoc f l j h
 generalize findN f l = R at *
 clear hA
 go_enter Tryz.func106,Tryz.ntmps106
 go_wp2
 go_loopw [8] (fun i wr => ∃ j : Nat,j <= l.length /\ i = .int .i64 (j : Int) /\ Hid ((l.take j).any f = false) /\ Hid (Below w.heap.size w wr)) (fun i _ => l.length - (intOf i).toNat)
 case atStart => exact ⟨0,Nat.zero_le _,rfl,Lib.hid rfl,Lib.hid (Below.refl _ _)⟩
 case round =>
  obtain ⟨j,hj,rfl,HP,HW⟩:=hrel
  by_cases hlt : j < l.length
  case pos =>
   obtain ⟨b,o,rfl,_,hkid⟩:=hkids (by omega)
   have hk1:=hkid j hlt
   have hih0:=ih _ (List.getElem_mem hlt)
   rw [<- getDn hlt] at hk1 hih0
   obtain ⟨B,cB,q0,q1,q2,q3,hn1⟩:=kid_cells hk1 HW.out
   have hjc : j < c:=by omega
   have HS:=Lib.hid (HSN.out j hlt)
   have HA:=Lib.hid (HFA.out j hlt HP.out)
   unfold AskAt at hih0
   clear hkid hkids ih hk1 HSN HFA HFN
   generalize l.getD j dNd = kd at *
   have hih:=hih0 S B cB wr hn1
   have hihd:=fun m => hih0 S B cB (wr.drewN m) (hn1.below (below_drewN (Below.refl _ _) m))
   cases hs : f kd with
   | true =>
    rw [hs] at hih HA
    have HA2:=Lib.hid (HA.out rfl)
    clear hs HS HA
    go_wp2_with fail
    refine hih.mono ?_
    rintro e w5 ⟨rfl,hb5⟩
    have hb6:=HW.out.trans (hb5.mono HW.out.size)
    clear hb5 hih
    go_wp2
    go_ret
    exact ⟨by rw [HA2.out] <;> rfl,hb6⟩
   | false =>
    rw [hs] at hih HS
    have HS2:=Lib.hid (HS.out.trans (by rw [HP.out] <;> rfl))
    clear hs HS HA
    go_wp2_with fail
    refine hih.mono ?_
    rintro e w5 ⟨rfl,hb5⟩
    have hb6:=HW.out.trans (hb5.mono HW.out.size)
    clear hb5 hih
    go_wp2
    go_roundw
    case rel => exact ⟨j + 1,hlt,by go_num,HS2,Lib.hid hb6⟩
    case measure => first | (simp [intOf]; done) | (simp [intOf]; omega)
  case neg =>
   obtain rfl : j = l.length:=by omega
   have hp:=HP.out
   rw [List.take_length] at hp
   have HPP:=Lib.hid (HFN.out hp)
   clear hp
   go_wp2
   go_ret
   exact ⟨by rw [HPP.out] <;> rfl,HW.out⟩
set_option maxHeartbeats 4000000 in
theorem containsf_any (g : FuncId) (hef : ∀ args w,(callFunc g args).run Tryz.prog w = .ok (.enter g args) w) (f : Nd -> Bool) (l : List Nd) (ih : ∀ n ∈ l,AskAt g f n) (S : Nat -> Nat -> Prop) (k : Int) (t v : ByteArray) (A : Option Addr) (c : Nat) (w : World) (hA : NAt S w (.mk k t v l) A c) :
 Calls Tryz.prog 65 #[.slice A l.length c,.func (.func g) #[] #[]] w fun e w' => e = .returned (.bool (l.any f)) /\ Below w.heap.size w w':=by
 have hI:=indexf_any g hef f l ih S k t v A c w hA
 rw [<- find_ge]
 generalize findN f l = R at *
 clear hA ih
 go_enter Tryz.func65,Tryz.ntmps65
 go_wp2_with (go_at_call 106; refine hI.mono ?_; rintro e w' ⟨rfl,hb⟩)
 go_ret
 exact ⟨rfl,hb⟩
theorem elemN_eq (k : Int) (t v : ByteArray) (l : List Nd) : elemN (.mk k t v l) = (decide (k = 10) || l.any elemN):=by simp only [elemN,elemL_any]
theorem nbox {w : World} {g : Nat} {n : Nd} {A : Option Addr} {c : Nat} (h : Blk w g 24 #[.int .i64 n.k,.string n.t,.string n.v,.slice A n.kids.length c]) :
 w.cell? ⟨g,0,none⟩ = some (.int .i64 n.k) /\ w.cell? ⟨g,1,none⟩ = some (.string n.t) /\ w.cell? ⟨g,2,none⟩ = some (.string n.v) /\ w.cell? ⟨g,3,none⟩ = some (.slice A n.kids.length c) :=
 ⟨h.cell 0,h.cell 1,h.cell 2,h.cell 3⟩
theorem al_nd (w : World) (cs : Array Value) : Below w.heap.size w (w.alloc (.cells cs 24)):=(Below.refl _ _).alloc (Nat.le_refl _) _
set_option maxHeartbeats 4000000 in
theorem elem_any (n : Nd) : AskAt 37 elemN n:=by
 induction n using Nd.ind with
 | h k t v l ih =>
  intro S A c w hA
  have hC:=containsf_any 37 (fun _ _ => rfl) elemN l ih S k t v A c _ (hA.below (al_nd w #[.int .i64 k,.string t,.string v,.slice A l.length c]))
  simp only [Nd.k,Nd.t,Nd.v,Nd.kids]
  rw [elemN_eq]
  have al:=al_nd w #[.int .i64 k,.string t,.string v,.slice A l.length c]
  clear ih hA
  by_cases hk : k = 10
  ·subst hk
   rw [decide_eq_true rfl,Bool.true_or]
   go_enter Tryz.func37,Tryz.ntmps37
   go_wp2
   go_ret
   exact ⟨rfl,al⟩
  ·rw [decide_eq_false hk,Bool.false_or]
   have z1:=ibeq hk
   generalize l.any elemN = R at *
   go_enter Tryz.func37,Tryz.ntmps37
   go_wp2_with (go_at_call 65; refine hC.mono ?_; rintro e w' ⟨rfl,hb⟩)
   go_ret
   exact ⟨rfl,al.trans (hb.mono al.size)⟩
set_option maxHeartbeats 4000000 in
theorem relem_any (n : Nd) : AskAt 136 elemN n:=by
 induction n using Nd.ind with
 | h k t v l ih =>
  intro S A c w hA
  simp only [Nd.k,Nd.t,Nd.v,Nd.kids]
  rw [elemN_eq]
  obtain ⟨hlc,hcm,hkids⟩:=(NAt.def_ _ _ _).1 hA
  simp only [Nd.kids] at hlc hkids
  have hcm2 : c <= 9223372036854775807:=by simpa [maxLen] using hcm
  obtain ⟨W0,hW0⟩ : ∃ W0,w.alloc (.cells #[.int .i64 k,.string t,.string v,.slice A l.length c] 24) = W0:=⟨_,rfl⟩
  have al:=al_nd w #[.int .i64 k,.string t,.string v,.slice A l.length c]
  have hX:=Blk.new w 24 #[.int .i64 k,.string t,.string v,.slice A l.length c]
  rw [hW0] at al hX
  have HAL:=Lib.hid al
  have HX:=Lib.hid hX
  have x0 : W0.cell? ⟨w.heap.size,0,none⟩ = some (.int .i64 k):=hX.cell 0
  by_cases hk : k = 10
  ·subst hk
   rw [decide_eq_true rfl,Bool.true_or]
   clear ih hA hkids
   go_enter Tryz.func136,Tryz.ntmps136
   go_wp2
   go_ret
   exact ⟨rfl,al⟩
  ·rw [decide_eq_false hk,Bool.false_or]
   have z1:=ibeq hk
   have HSN : Hid (∀ j (h : j < l.length),(l.take (j + 1)).any elemN = ((l.take j).any elemN || elemN (l.getD j dNd))):=Lib.hid fun j h => by rw [getDn h]; exact any_snoc elemN l j h
   have HTR : Hid (∀ j (h : j < l.length),elemN (l.getD j dNd) = true -> l.any elemN = true):=Lib.hid fun j h h2 => by
    rw [getDn h] at h2
    exact List.any_eq_true.2 ⟨_,List.getElem_mem h,h2⟩
   have HTL : Hid (l.take l.length = l):=Lib.hid List.take_length
   obtain ⟨R,hR⟩ : ∃ R,l.any elemN = R:=⟨_,rfl⟩
   rw [hR]
   have HR:=Lib.hid hR
   clear hR hA al hX
   go_enter Tryz.func136,Tryz.ntmps136
   go_wp2
   clear hW0 x0
   go_loopw [3] (fun i wr => ∃ j : Nat,j <= l.length /\ i = .int .i64 (j : Int) /\ Hid ((l.take j).any elemN = false) /\ Hid (Below W0.heap.size W0 wr)) (fun i _ => l.length - (intOf i).toNat)
   case atStart => exact ⟨0,Nat.zero_le _,rfl,Lib.hid rfl,Lib.hid (Below.refl _ _)⟩
   case round =>
    obtain ⟨j,hj,rfl,HP,HW⟩:=hrel
    have hbw : Below w.heap.size w wr:=HAL.out.trans (HW.out.mono HAL.out.size)
    have hXw:=HX.out.below HW.out HX.out.lt
    have x3 : wr.cell? ⟨w.heap.size,3,none⟩ = some (.slice A l.length c):=hXw.cell 3
    by_cases hlt : j < l.length
    case pos =>
     obtain ⟨b,o,rfl,_,hkid⟩:=hkids (by omega)
     have hk1:=hkid j hlt
     have hih0:=ih _ (List.getElem_mem hlt)
     rw [<- getDn hlt] at hk1 hih0
     obtain ⟨B,cB,q0,q1,q2,q3,hn1⟩:=kid_cells hk1 hbw
     have hjc : j < c:=by omega
     have HS:=Lib.hid (HSN.out j hlt)
     have HA:=Lib.hid (HTR.out j hlt)
     unfold AskAt at hih0
     clear hkid hkids ih hk1 HSN HTR HTL hXw
     generalize l.getD j dNd = kd at *
     have hih:=hih0 S B cB wr hn1
     have HBW:=Lib.hid hbw
     clear hbw hih0
     cases hs : elemN kd with
     | true =>
      rw [hs] at hih HA
      have HA2:=Lib.hid (HR.out.symm.trans (HA.out rfl))
      clear hs HS HA HR
      go_wp2_with fail
      refine hih.mono ?_
      rintro e w5 ⟨rfl,hb5⟩
      have hb6:=HBW.out.trans (hb5.mono HBW.out.size)
      clear hb5 hih
      go_wp2
      go_ret
      exact ⟨by rw [HA2.out] <;> rfl,hb6⟩
     | false =>
      rw [hs] at hih HS
      have HS2:=Lib.hid (HS.out.trans (by rw [HP.out] <;> rfl))
      clear hs HS HA
      go_wp2_with fail
      refine hih.mono ?_
      rintro e w5 ⟨rfl,hb5⟩
      have hb6:=HW.out.trans (hb5.mono HW.out.size)
      clear hb5 hih
      go_wp2
      go_roundw
      case rel => exact ⟨j + 1,hlt,by go_num,HS2,Lib.hid hb6⟩
      case measure => first | (simp [intOf]; done) | (simp [intOf]; omega)
    case neg =>
     obtain rfl : j = l.length:=by omega
     have HPP : Hid (R = false):=Lib.hid (by rw [<- HR.out,<- HP.out,HTL.out])
     clear HP
     go_wp2
     go_ret
     exact ⟨by rw [HPP.out] <;> rfl,hbw⟩
open Go Go.RowKit
def isBk : Obj -> Bool
 | .loop _ => true
 | .deferred _ => true
 | _ => false
structure Kept (K : Nat -> Obj -> Prop) (W W' : World) : Prop where
 size : W.heap.size <= W'.heap.size
 same : ∀ k o,W.heap[k]? = some o -> K k o -> W'.heap[k]? = some o
section
variable {K : Nat -> Obj -> Prop} {W W' W'' : World}
theorem Kept.refl (K : Nat -> Obj -> Prop) (W : World) : Kept K W W:=⟨Nat.le_refl _,fun _ _ h _ => h⟩
theorem Kept.trans (h : Kept K W W') (k : Kept K W' W'') : Kept K W W'':=⟨Nat.le_trans h.size k.size,fun i o ho hc => k.same i o (h.same i o ho hc) hc⟩
theorem Kept.of_tch {B : Nat} {T : Obj -> Prop} (h : Tch B T W W') (hK : ∀ k o,K k o -> k < B \/ ¬ T o) : Kept K W W':=⟨h.size,fun k o ho hk => h.block k o ho (hK k o hk)⟩
theorem Kept.of_below (h : Below W.heap.size W W') : Kept K W W':=⟨h.size,fun k _ ho _ => (h.block k (Array.getElem?_eq_some_iff.1 ho).1).trans ho⟩
theorem Kept.alloc (h : Kept K W W') (o : Obj) : Kept K W (W'.alloc o):=h.trans (Kept.of_below ((Below.refl _ _).alloc (Nat.le_refl _) _))
theorem Kept.alloc1 (K : Nat -> Obj -> Prop) (W : World) (o : Obj) : Kept K W (W.alloc o):=(Kept.refl K W).alloc o
theorem Kept.drew (h : Kept K W W') : Kept K W W'.drew:=⟨h.size,h.same⟩
theorem Kept.drewN (h : Kept K W W') (n : Nat) : Kept K W (W'.drewN n):=⟨h.size,h.same⟩
theorem Kept.mono {K' : Nat -> Obj -> Prop} (h : Kept K W W') (hk : ∀ k o,K' k o -> K k o) : Kept K' W W':=⟨h.size,fun k o ho hc => h.same k o ho (hk k o hc)⟩
theorem Kept.put {l : Nat} {o : Obj} (o' : Obj) (hl : W.heap[l]? = some o) (hn : ¬ K l o) : Kept K W (W.putObj l o') :=
 ⟨(grownBy_putObj' W l o').size,fun k o2 h2 hk => by
  by_cases e : k = l
  ·subst e; rw [hl] at h2; cases h2; exact absurd hk hn
  ·exact (World.putObj_heap_other e).trans h2⟩
theorem Kept.set_new (h : Kept K W W') {p : Addr} (hp : W.heap.size <= p.block) (u : Value) : Kept K W (W'.setCell p u) :=
 ⟨by simpa [World.setCell] using h.size,fun k o ho hk => (Below.heap_setCell W' p u k (by have:=(Array.getElem?_eq_some_iff.1 ho).1; omega)).trans (h.same k o ho hk)⟩
theorem Blk.kept {g : Nat} {t : TypeId} {cs : Array Value} (h : Blk W g t cs) (hk : Kept K W W') (hc : K g (.cells cs t (0,0))) : Blk W' g t cs:=hk.same _ _ h hc
theorem tch_put {B : Nat} {T : Obj -> Prop} {l : Nat} {o : Obj} (o' : Obj) (hB : B <= l) (hl : W.heap[l]? = some o) (ho : T o) : Tch B T W (W.putObj l o') :=
 Tch.of_grown (grownBy_putObj' W l o') hB hl ho
theorem Tch.lower {B B' : Nat} {T : Obj -> Prop} (h : Tch B T W W') (hB : B' <= B) : Tch B' T W W':=⟨h.os,h.tape,h.output,h.size,fun k o ho hc => h.block k o ho (hc.imp_left fun h => Nat.lt_of_lt_of_le h hB)⟩
end
def Needs (C : Obj -> Prop) (b0 B : Nat) (k : Nat) (o : Obj) : Prop:=k < b0 \/ C o \/ (B <= k /\ isBk o = true)
def WalksAt (C T : Obj -> Prop) (F : Fence) (n : Nat) (P : Program) (f : Nat) (fa lb : Array Value) (x : Nat -> Array Value) (N : Nat) (b0 : Nat) (W : World) : Prop :=
 ∀ (l B : Nat) (K : Nat -> Obj -> Prop) (J : Nat -> World -> Prop) (Jx : World -> Prop),b0 <= B -> B <= W.heap.size -> (∀ k o,Needs C b0 B k o -> K k o) ->
  (∀ k A A',J k A -> Tch B T A A' -> J k A') -> (∀ A A',Jx A -> Tch B T A A' -> Jx A') ->
  (∀ m k W1,k < N -> J k W1 -> YieldAt F m P l (x k) W1 fun e W2 => Kept K W1 W2 /\ ((e = .returned (.bool true) /\ J (k + 1) W2) \/ (e = .returned (.bool false) /\ Jx W2))) ->
  J 0 W -> CallsIn F n P f (fa ++ #[.func (.yield l) #[] #[]] ++ lb) W fun e W2 => (∃ v,e = .returned v) /\ Kept K W W2 /\ (J N W2 \/ Jx W2)
theorem room_of_none {F : Fence} (hd : F.depth = none) (k : Nat) : F.room k:=fun d h => by rw [hd] at h; cases h
theorem roundIn_anyDepth {F : Fence} (hd : F.depth = none) {m m' : Nat} {P : Program} {l : Nat} {f : FuncId} {tmps : Array Value} {assign body : Code} {w : World} {R : Ending -> World -> Prop}
 (h : RoundIn F m P l f tmps assign body w R) : RoundIn F m' P l f tmps assign body w R:=⟨h.1,fun c cs _ => h.2 c cs (room_of_none hd _)⟩
def RoundOut (K : Nat -> Obj -> Prop) (I : Nat -> World -> Prop) (Ix : World -> Prop) (k : Nat) (W : World) (e : Exit) (_ : Act) (W2 : World) : Prop :=
 Kept K W W2 /\ ((e = .normal /\ I (k + 1) W2) \/ (e = .ret /\ Ix W2))
theorem range_rounds {C T : Obj -> Prop} (hT : ∀ o,isBk o = true -> T o) (hC : ∀ o,C o -> isBk o = false)
 {F : Fence} {n : Nat} {P : Program} {g : Operand} {ps : Array Tmp} {assign body : Code} {Q : Exit -> Act -> World -> Prop} {a : Act} {w : World}
 (hd : F.depth = none) (hro : F.round = none) {f : Nat} {fa lb : Array Value} (hg : a.eval g = .func (.func f) fa lb) (hF : F.fn f) (ef : ∀ args w,(callFunc f args).run P w = .ok (.enter f args) w)
 {x : Nat -> Array Value} {N : Nat} (hx : ∀ k,(x k).size = ps.size) {b0 : Nat} (hb0 : b0 <= w.heap.size) (K : Nat -> Obj -> Prop) (hK : ∀ k o,Needs C b0 w.heap.size k o -> K k o)
 (hv : ∀ o,WalksAt C T F (n - 1) P f fa lb x N b0 ((w.alloc (.deferred (some []))).alloc o))
 (I : Nat -> World -> Prop) (Ix : World -> Prop) (hI : ∀ k A A',I k A -> Tch w.heap.size T A A' -> I k A') (hX : ∀ A A',Ix A -> Tch w.heap.size T A A' -> Ix A') (h0 : I 0 w)
 (Ax : Nat -> Act -> World -> Prop) (hAx : ∀ k a' A A',Ax k a' A -> Tch w.heap.size T A A' -> Ax k a' A')
 (hassign : ∀ (l k : Nat) (W : World) (Kc : Act -> World -> Prop),k < N -> I k W -> (∀ a' W',Kept K W W' -> I k W' -> Ax k a' W' -> Kc a' W') ->
  assign.wpIn (F.inRound l) (n - 1 - 1) P (Exit.then Kc (fun _ _ _ => False)) { tmps:=(ps.zip (x k)).foldl (fun t (p,v) => t.setIfInBounds p v) a.tmps,defers:=[] } W)
 (hbody : ∀ (l k : Nat) (a' : Act) (W : World),k < N -> I k W -> Ax k a' W -> body.wpIn (F.inRound l) (n - 1 - 1) P (RoundOut K I Ix k W) a' W)
 (hdone : ∀ (D : Nat) (W : World),w.heap.size <= D -> Kept K w W -> I N W -> W.heap[D]? = some (.deferred (some [])) -> Q .normal { a with defers:={ target:=.collected D,args:=#[] } :: a.defers } W)
 (hstop : ∀ (D : Nat) (W : World),w.heap.size <= D -> Kept K w W -> Ix W -> W.heap[D]? = some (.deferred (some [])) -> Code.ret.wpIn F n P Q { a with defers:={ target:=.collected D,args:=#[] } :: a.defers } W) :
 (Code.rangeFunc g ps assign body).wpIn F n P Q a w:=by
 refine wpIn_rangeFunc fun fn hfn => ?_
 rw [hro]
 let R : LoopState -> Option Code -> Loop:=fun st pe => { state:=st,pending:=pe,fn,tmps:=a.tmps,params:=ps,assign,body,defers:=w.heap.size }
 let L:=w.heap.size + 1
 let At (st : LoopState) (pe : Option Code) (W : World) : Prop:=W.heap[L]? = some (.loop (R st pe)) /\ W.heap[w.heap.size]? = some (.deferred (some []))
 have turn : ∀ {st pe st' pe' W},At st pe W -> At st' pe' (W.putObj L (.loop (R st' pe'))):=fun h =>
  ⟨World.putObj_heap_same (Array.getElem?_eq_some_iff.1 h.1).1,(World.putObj_heap_other (by show w.heap.size ≠ w.heap.size + 1; omega)).trans h.2⟩
 have begun : At .ready none ((w.alloc (.deferred (some []))).alloc (.loop (R .ready none))):=by
  refine ⟨?_,(Below.heap_alloc _ _ _ (by simp)).trans (World.alloc_heap_new w _)⟩
  have:=World.alloc_heap_new (w.alloc (.deferred (some []))) (.loop (R .ready none))
  rwa [World.size_alloc] at this
 have hsz : ((w.alloc (.deferred (some []))).alloc (.loop (R .ready none))).heap.size = w.heap.size + 2:=by simp
 have tput : ∀ {st pe W} st' pe',At st pe W -> Tch w.heap.size T W (W.putObj L (.loop (R st' pe'))):=fun st' pe' h => tch_put _ (Nat.le_succ _) h.1 (hT _ rfl)
 have kat : ∀ {st pe W W'},At st pe W -> Kept K W W' -> At st pe W':=fun h hk => ⟨hk.same _ _ h.1 (hK _ _ (.inr (.inr ⟨Nat.le_succ _,rfl⟩))),hk.same _ _ h.2 (hK _ _ (.inr (.inr ⟨Nat.le_refl _,rfl⟩)))⟩
 have tat : ∀ {st pe W W'},At st pe W -> Tch (w.heap.size + 2) T W W' -> At st pe W':=fun h ht => ⟨ht.block _ _ h.1 (.inl (Nat.lt_succ_self _)),ht.block _ _ h.2 (.inl (by omega))⟩
 let K' : Nat -> Obj -> Prop:=fun k o => K k o /\ ¬ (k = L /\ isBk o = true)
 have kput : ∀ {st pe W} st' pe',At st pe W -> Kept K' W (W.putObj L (.loop (R st' pe'))):=fun st' pe' h => Kept.put _ h.1 fun hk => hk.2 ⟨rfl,rfl⟩
 refine ⟨L,[{ target:=.collected w.heap.size,args:=#[] }],_,{ target:=.fn (.func f) lb,args:=fa ++ #[.func (.yield L) #[] #[]] },_,f,fa ++ #[.func (.yield L) #[] #[]] ++ lb,_,
  run_enterLoop_outer _ _ _ _ _,(?_ : _ = Result.ok _ ((w.alloc (.deferred (some []))).alloc (.loop (R .ready none)))),fun f' hf' => ?_,(?_ : _ = Result.ok _ ((w.alloc (.deferred (some []))).alloc (.loop (R .ready none)))),fun h => (by rw [hd] at h; cases h),?_⟩
 ·simp only [resolve,hg]
  simp [go_sem,R,L]
 ·simp [Target.leads] at hf'
  subst hf'
  exact hF
 ·simp [invoke,go_sem,ef]
 refine (hv (.loop (R .ready none)) L (w.heap.size + 2) K' (fun k W => I k W /\ At .ready none W) (fun W => Ix W /\ At .done (some .ret) W) (by omega) (by rw [hsz]; exact Nat.le_refl _) ?_ ?_ ?_ ?_ ⟨hI _ _ _ h0 (((Tch.refl _ _ _).alloc _).alloc _),begun⟩).mono ?_
 ·rintro k o (h | h | ⟨h,hb⟩)
  ·exact ⟨hK _ _ (.inl h),fun e => by have : k = w.heap.size + 1:=e.1; omega⟩
  ·exact ⟨hK _ _ (.inr (.inl h)),fun e => by rw [hC o h] at e; exact absurd e.2 (by decide)⟩
  ·exact ⟨hK _ _ (.inr (.inr ⟨by omega,hb⟩)),fun e => by have : k = w.heap.size + 1:=e.1; omega⟩
 ·rintro k A A' ⟨hi,hat⟩ ht
  exact ⟨hI _ _ _ hi (ht.lower (by omega)),tat hat ht⟩
 ·rintro A A' ⟨hi,hat⟩ ht
  exact ⟨hX _ _ hi (ht.lower (by omega)),tat hat ht⟩
 ·-- one round
  rintro m k W hk ⟨hi,hat⟩
  refine ⟨fn,_,assign,body,run_yield (r:=R .ready none) hat.1 (hx k),roundIn_anyDepth hd (roundIn_of_wpIn (n:=n - 1 - 1) hfn (hassign L k W _ hk hi ?_))⟩
  intro a' Wa hka hia hax
  have hata:=kat hat hka
  refine ⟨_,run_beginRound (r:=R .ready none) hata.1 rfl,?_⟩
  have hb:=turn (st':=.busy) (pe':=none) hata
  have t1:=tput .busy none hata
  have k1 : Kept K' W (Wa.putObj L (.loop (R .busy none))):=(hka.mono fun _ _ h => h.1).trans (kput _ _ hata)
  refine wpIn_mono (hbody L k a' _ hk (hI k _ _ hia t1) (hAx k a' _ _ hax t1)) fun e a3 W3 hp => ?_
  obtain ⟨hk3,hp⟩:=hp
  have h3 : At .busy none W3:=kat hb hk3
  rcases hp with ⟨rfl,hi3⟩ | ⟨rfl,hi3⟩
  ·exact ⟨_,_,run_endRound none h3.1,(k1.trans (hk3.mono fun _ _ h => h.1)).trans (kput .ready none h3),.inl ⟨rfl,hI _ _ _ hi3 (tput .ready none h3),turn h3⟩⟩
  ·exact ⟨_,_,run_endRound (some .ret) h3.1,(k1.trans (hk3.mono fun _ _ h => h.1)).trans (kput .done (some .ret) h3),.inr ⟨rfl,hX _ _ hi3 (tput .done (some .ret) h3),turn h3⟩⟩
 ·-- behind it
  have back : ∀ {st pe W} st' pe',At st pe W -> Kept K' ((w.alloc (.deferred (some []))).alloc (.loop (R .ready none))) W -> Kept K w (W.putObj L (.loop (R st' pe'))):=fun st' pe' h hk => by
   have hk2:=hk.trans (kput st' pe' h)
   have hn : Kept K w ((w.alloc (.deferred (some []))).alloc (.loop (R .ready none))):=((Kept.refl _ _).alloc _).alloc _
   refine ⟨Nat.le_trans hn.size hk2.size,fun k o ho hc => hk2.same k o (hn.same k o ho hc) ⟨hc,fun e => ?_⟩⟩
   have h1 : k = w.heap.size + 1:=e.1
   have:=(Array.getElem?_eq_some_iff.1 ho).1
   omega
  rintro e W2 ⟨⟨v,rfl⟩,hk2,(⟨hi,hat⟩ | ⟨hi,hat⟩)⟩
  ·exact ⟨none,_,run_endLoop (r:=R .ready none) hat.1 (by simp [R]),hdone _ _ (Nat.le_refl _) (back _ _ hat hk2) (hI _ _ _ hi (tput _ _ hat)) (turn (st':=.exhausted) (pe':=none) hat).2⟩
  ·exact ⟨some .ret,_,run_endLoop (r:=R .done (some .ret)) hat.1 (by simp [R]),hstop _ _ (Nat.le_refl _) (back _ _ hat hk2) (hX _ _ hi (tput _ _ hat)) (turn (st':=.exhausted) (pe':=some .ret) hat).2⟩
end Go.Proofs.YtbnppjmmlfncmaaGreatDoor
