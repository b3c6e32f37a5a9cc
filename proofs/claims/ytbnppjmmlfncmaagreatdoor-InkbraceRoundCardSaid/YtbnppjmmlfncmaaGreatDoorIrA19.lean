/-
  carry: the search of brace; what stands in a node, visited.
  inkbrace: Print.
  Rows of nodes that a call makes; bare, Copy.
  tree: Copy.
  A region that draws its order, by hand: several operations that may come up; what is free of the facts. No program is read here.
  tree: build and the closure that takes a kid.
  tree: build.
  tree: Build.
  tree: Walk.
  Same: the reference's, the program's (by slices.EqualFunc), and the reference's of lists of events.
  The program's Same, by slices.EqualFunc.
  tree: At; what a place selects.
  The law's own examples: lives (12).
  A node that came in, opened.
-/
import Derived.Test.YtbnppjmmlfncmaaGreatDoorIrA01
import Derived.Test.YtbnppjmmlfncmaaGreatDoorIrA18
import Derived.Test.YtbnppjmmlfncmaaGreatDoorIrA07
import Derived.Test.YtbnppjmmlfncmaaGreatDoorIrA09
import Derived.Test.YtbnppjmmlfncmaaGreatDoorIrA08
import Derived.Test.YtbnppjmmlfncmaaGreatDoorIrA15
import Derived.Test.YtbnppjmmlfncmaaGreatDoorIrA04
import Derived.Test.YtbnppjmmlfncmaaGreatDoorIrA16
import Derived.Test.YtbnppjmmlfncmaaGreatDoorIrA12
import Derived.Deep.Slices
import Derived.Deep.Fields
import Derived.SizedLaws
import Derived.OpenShut
set_option maxRecDepth 100000
set_option linter.unusedSimpArgs false
set_option linter.unusedVariables false
set_option linter.unusedSectionVars false
namespace Go.Proofs.YtbnppjmmlfncmaaGreatDoor
open Go.RowKit Go.Maps
def ndVal (n : Nd) (A : Option Addr) (c : Nat) : Value:=.agg #[.int .i64 n.k,.string n.t,.string n.v,.slice A n.kids.length c]
def restS (st : Sr) (n : Nd) (j : Nat) : Option (List Nat):=srL badS nextS (n.kids.drop j) (nextS st n) j
theorem restS_at (st : Sr) (n : Nd) (j : Nat) (h : j < n.kids.length) : restS st n j = match srN badS nextS (n.kids.getD j dNd) (nextS st n j) with | some q => some (j :: q) | none => restS st n (j + 1):=by
 unfold restS
 rw [List.drop_eq_getElem_cons h,srL_cons,getDn h]
 rfl
theorem restS_end (st : Sr) (n : Nd) : restS st n n.kids.length = none:=by unfold restS; rw [List.drop_length,srL_nil]
theorem srN_good (st : Sr) (n : Nd) (h : badS st n = false) : srN badS nextS n st = restS st n 0:=by
 rw [srN_def,if_neg (by rw [h]; decide)]
 rfl
theorem srN_bad (st : Sr) (n : Nd) (h : badS st n = true) : srN badS nextS n st = some []:=by rw [srN_def,if_pos h]
theorem size_kid {l : List Nd} {j : Nat} (h : j < l.length) : 1 + sizeN (l.getD j dNd) <= 1 + sizeL l /\ l.length <= sizeL l:=by
 have h1:=sizeL_len l
 have h2 : sizeN (l.getD j dNd) <= sizeL l:=by
  rw [getDn h]
  clear h1
  induction l generalizing j with
  | nil => simp at h
  | cons n r ih =>
   cases j with
   | zero => simp [sizeL]
   | succ j =>
    have:=ih (j:=j) (by simpa using h)
    simp only [List.getElem_cons_succ,sizeL]
    omega
 omega
theorem kids_vis (st : Sr) (s : Nat) (path : List Nat) (gr : Option Nat) (n : Nd) (A : Option Addr) (c : Nat) (w : World) (hi : SI s w path gr) (hA : NAt (fun b _ => b < s) w n A c) (hlen : path.length + sizeN n <= 100000)
 (g : FuncId) (first cap : Array Value) (hef : ∀ args w,(callFunc g args).run Tryz.prog w = .ok (.enter g args) w)
 (hv : ∀ j (h : j < n.kids.length) w1 g1 B cB,SI s w1 (path ++ [j]) g1 -> FrS s gr w w1 g1 -> NAt (fun b _ => b < s) w1 (n.kids.getD j dNd) B cB -> (path ++ [j]).length + sizeN (n.kids.getD j dNd) <= 100000 ->
  Calls Tryz.prog g (first.push (ndVal (n.kids.getD j dNd) B cB) ++ cap) w1 (VPost s (path ++ [j]) g1 w1 (srN badS nextS (n.kids.getD j dNd) (nextS st n j)))) :
 Calls Tryz.prog 84 #[.pointer (some ⟨s,0,none⟩),ndVal n A c,.func (.func g) first cap] w (VPost s path gr w (restS st n 0)):=by
 obtain ⟨k,t,v,l⟩:=n
 have hsz : sizeN (.mk k t v l) = 1 + sizeL l:=by simp [sizeN]
 have hll:=sizeL_len l
 refine kids_any s path gr k t v l A c w hi hA (by omega) (by omega) g first cap hef (fun j m => srN badS nextS m (nextS st (.mk k t v l) j)) (restS st (.mk k t v l)) (fun j h => restS_at st (.mk k t v l) j h) (restS_end st (.mk k t v l)) ?_
 intro j h w1 g1 B cB h1 h2 h3
 have:=size_kid h
 exact hv j h w1 g1 B cB h1 h2 h3 (by simp only [List.length_append,List.length_cons,List.length_nil,Nd.kids]; omega)
def VisAt (f : FuncId) (more : Array Value) (st : Sr) (n : Nd) : Prop:=∀ (s : Nat) (path : List Nat) (g : Option Nat) (A : Option Addr) (c : Nat) (w : World),SI s w path g -> NAt (fun b _ => b < s) w n A c -> path.length + sizeN n <= 100000 ->
    Calls Tryz.prog f (#[.pointer (some ⟨s,0,none⟩),ndVal n A c] ++ more) w (VPost s path g w (srN badS nextS n st))
theorem vis_app (a b : Value) (more : Array Value) : (#[a].push b ++ more) = #[a,b] ++ more:=by simp
theorem VPost.cases_ {s : Nat} {path : List Nat} {g : Option Nat} {w : World} {r : Option (List Nat)} {e : Ending} {w' : World} (h : VPost s path g w r e w') :
 (r = none /\ e = .returned (.tuple #[]) /\ VPost s path g w r (.returned (.tuple #[])) w') \/ (∃ v,e = .panicked (foundP v) /\ VPost s path g w r (.panicked (foundP v)) w'):=by
 rcases h with ⟨h1,rfl,h3⟩ | ⟨q,v,h1,rfl,h3⟩
 ·exact .inl ⟨h1,rfl,.inl ⟨h1,rfl,h3⟩⟩
 ·exact .inr ⟨v,rfl,.inr ⟨q,v,h1,rfl,h3⟩⟩
set_option maxHeartbeats 4000000 in
theorem brace_vis (n : Nd) : VisAt 47 #[] .brc n:=by
 induction n using Nd.ind with
 | h k t v l ih =>
  intro s path g A c w hi hA hlen
  have al:=al_nd w #[.int .i64 k,.string t,.string v,.slice A l.length c]
  have hi1:=hi.below al
  have HF : Hid (FrS s g w _ g):=Lib.hid (FrS.of_below al)
  have HI:=Lib.hid hi
  obtain ⟨x0,x1,x2,x3⟩:=nbox (n:=.mk k t v l) (Blk.new w 24 #[.int .i64 k,.string t,.string v,.slice A l.length c])
  simp only [Nd.k,Nd.t,Nd.v,Nd.kids] at x0 x1 x2 x3
  by_cases hk : k = 10
  ·subst hk
   rw [srN_bad _ _ (by simp [badS,Nd.k])]
   have hR:=refuse_yes s path g _ hi1
   clear ih hA hi hi1
   unfold ndVal
   go_enter Tryz.func47,Tryz.ntmps47
   go_wp2_with fail
   refine hR.mono ?_
   rintro e w1 ⟨u,rfl,ho,hb⟩
   exact ⟨rfl,.inr ⟨[],u,rfl,rfl,by rw [List.append_nil]; exact ho,(HF.out.low HI.out).trans (hb.mono (Nat.le_of_lt (HI.out.below al).lt))⟩⟩
  ·rw [srN_good _ _ (by simp [badS,Nd.k,hk])]
   have z1:=ibeq hk
   have hR:=refuse_no s
   have hK:=kids_vis .brc s path g (.mk k t v l) A c _ hi1 (hA.low (fun q hq => al.block q (Nat.lt_trans hq hi.lt))) hlen 47 #[.pointer (some ⟨s,0,none⟩)] #[] (fun _ _ => rfl) (fun j h w1 g1 B cB h1 h2 h3 h4 => by
    have:=ih _ (List.getElem_mem h) s _ g1 B cB w1 h1 (by rw [<- getDn h]; exact h3) (by rw [<- getDn h]; exact h4)
    rw [<- getDn h] at this
    rw [vis_app]
    exact this)
   unfold ndVal at hK ⊢
   simp only [Nd.k,Nd.t,Nd.v,Nd.kids] at hK ⊢
   clear ih hA hi hi1 hk
   go_enter Tryz.func47,Tryz.ntmps47
   go_wp2_with fail
   refine (hR _).mono ?_
   rintro e w1 ⟨rfl,rfl⟩
   clear hR
   go_wp2_with fail
   refine hK.mono ?_
   intro e w1 h
   have h2:=VPost.pre HI.out HF.out h
   rcases h2.cases_ with ⟨_,rfl,h3⟩ | ⟨u,rfl,h3⟩
   ·clear h h2 hK
    go_wp2
    go_end0
    exact h3
   ·exact ⟨rfl,h3⟩
theorem ofP_brc (n : Nd) : ofP 1 n = srN badS nextS n .brc:=by unfold ofP startS; rw [if_pos rfl]
theorem root_brc (n : Nd) : RootAt 1 n (ofP 1 n):=by
 rw [ofP_brc]
 intro s path g A c w hi hA hl
 have al:=al_nd w #[.int .i64 n.k,.string n.t,.string n.v,.slice A n.kids.length c]
 have hi1:=hi.below al
 have HI:=Lib.hid hi
 have HF : Hid (FrS s g w _ g):=Lib.hid (FrS.of_below al)
 have hV : VisAt 47 #[] .brc n:=brace_vis n
 obtain ⟨x0,x1,x2,x3⟩:=nbox (Blk.new w 24 #[.int .i64 n.k,.string n.t,.string n.v,.slice A n.kids.length c])
 have hK:=hV s path g A c _ hi1 (hA.low (fun q hq => al.block q (Nat.lt_trans hq hi.lt))) hl
 unfold ndVal at hK
 simp only [List.append_toArray,List.cons_append,List.nil_append,Array.append_empty] at hK
 generalize srN badS nextS n .brc = R at *
 clear hi hi1 hA al hV
 go_enter Tryz.func29,Tryz.ntmps29
 go_wp2_with fail
 refine hK.mono ?_
 intro e w1 h
 have h2:=VPost.pre HI.out HF.out h
 rcases h2.cases_ with ⟨_,rfl,h3⟩ | ⟨u,rfl,h3⟩
 ·clear h h2 hK
  go_wp2
  go_end0
  exact h3
 ·exact ⟨rfl,h3⟩
theorem printL_ne {l : List UInt8} (hv : validL l = true) : Qt.prText l ≠ []:=by
 unfold Qt.prText
 simp only [validL,Bool.and_eq_true,decide_eq_true_iff] at hv
 rw [if_pos hv.2,if_neg (by omega)]
 unfold Qt.printL
 simp
theorem ink_ne {n : Nd} (hg : gram n) (hv : valueK n.k = true) (hk : n.k ≠ 10) : inkN n ≠ []:=by
 have h1:=hg.head.1
 obtain ⟨k,t,v,l⟩:=n
 simp only [Nd.k,Nd.t,Nd.v] at hv h1 hk
 have h2 : k = 1 \/ k = 2 \/ k = 3 \/ k = 4 \/ k = 5 \/ k = 7 \/ k = 10:=of_decide_eq_true hv
 unfold formedB bareK at h1
 rcases h2 with rfl | rfl | rfl | rfl | rfl | rfl | rfl
 ·rw [inkN_1]; simp
 ·rw [inkN_e _ _ _ (by decide) (by decide) (by decide) (by decide) (by decide)]
  have h3:=(show emptyT v = true /\ boolL t.data.toList = true by simpa using h1).2
  intro h0
  rw [h0] at h3
  exact absurd h3 (by decide)
 ·rw [inkN_e _ _ _ (by decide) (by decide) (by decide) (by decide) (by decide)]
  have h3:=(show emptyT v = true /\ normL t.data.toList = true by simpa using h1).2
  intro h0
  rw [h0] at h3
  exact absurd h3 (by decide +kernel)
 ·rw [inkN_4]
  exact printL_ne (show emptyT v = true /\ validL t.data.toList = true by simpa using h1).2
 ·rw [inkN_5]; simp
 ·rw [inkN_7]; simp
 ·exact absurd rfl hk
def prE (n : Nd) : Int:=if mayN n = 0 then (if (ofP 1 n).isSome = true then 20 else 0) else mayN n
def prP (n : Nd) : List Int:=if mayN n = 0 then iP ((ofP 1 n).getD []) else []
def prS (n : Nd) : List UInt8:=if prE n = 0 then inkN n else []
def PrPost (n : Nd) (w : World) (e : Ending) (w' : World) : Prop:=∃ v,e = .returned (.tuple #[.string ⟨(prS n).toArray⟩,v,.int .i64 (prE n)]) /\ IRead w' v (prP n) /\ Below w.heap.size w w'
theorem pr_none {n : Nd} (h : prE n = 0) : mayN n = 0 /\ ofP 1 n = none:=by
 unfold prE at h
 split at h
 ·refine ⟨‹_›,?_⟩
  split at h
  ·omega
  ·rename_i h2
   simpa using h2
 ·exact absurd h ‹_›
theorem prP_ok {n : Nd} (h : prE n = 0) : prP n = []:=by
 obtain ⟨h1,h2⟩:=pr_none h
 unfold prP
 rw [if_pos h1,h2]
 rfl
set_option maxHeartbeats 8000000 in
theorem inkprint_any (n : Nd) (A : Option Addr) (c : Nat) (w : World) (hw : Nm.StdW w) (hA : NAt (fun b _ => b < w.heap.size) w n A c) (ho : okT n) (hz : sizeN n <= 90000) (hsm : mayN n = 0 -> smallT n) :
 Calls Tryz.prog 16 #[.agg #[.int .i64 n.k,.string n.t,.string n.v,.slice A n.kids.length c]] w (PrPost n w):=by
 have alk:=al_nd w #[.int .i64 n.k,.string n.t,.string n.v,.slice A n.kids.length c]
 have bX:=Blk.new w 24 #[.int .i64 n.k,.string n.t,.string n.v,.slice A n.kids.length c]
 obtain ⟨W0,hW0⟩ : ∃ W0,w.alloc (.cells #[.int .i64 n.k,.string n.t,.string n.v,.slice A n.kids.length c] 24) = W0:=⟨_,rfl⟩
 rw [hW0] at alk bX
 have hA0:=hA.upp alk
 have hO:=of_gen 1 (by omega) n (ofP 1 n) (fun _ => root_brc n) A c W0 (hw.below alk) hA0 ho hz
 unfold OfPost at hO
 obtain ⟨x0,x1,x2,x3⟩:=nbox bX
 have HX:=Lib.hid bX
 have HB:=Lib.hid alk
 have HA:=Lib.hid hA0
 unfold PrPost
 have hO2 : Calls Tryz.prog 11 #[.int .i64 1,.agg #[.int .i64 n.k,.string n.t,.string n.v,.slice A n.kids.length c]] W0 (fun e w' => ∃ v,e = .returned (.tuple #[v,.int .i64 (prE n)]) /\ IRead w' v (prP n) /\ Below W0.heap.size W0 w'):=hO
 have HE:=fun h => @pr_none n h
 have HP:=fun h => @prP_ok n h
 have HS : Hid (prS n = if prE n = 0 then inkN n else []):=Lib.hid rfl
 obtain ⟨E,hE⟩ : ∃ E,prE n = E:=⟨_,rfl⟩
 obtain ⟨PP,hPP⟩ : ∃ PP,prP n = PP:=⟨_,rfl⟩
 rw [hE,hPP] at hO2
 rw [hE] at HE HS
 rw [hE,hPP] at HP
 rw [hE,hPP]
 by_cases h0 : E = 0
 case neg =>
  have z1:=ibne h0
  have z2:=ibeq h0
  rw [if_neg h0] at HS
  rw [HS.out]
  clear hA hA0 hO bX alk ho hE hPP HE HP h0 HS
  go_enter Tryz.func16,Tryz.ntmps16
  go_wp2_with fail
  refine hO2.mono ?_
  rintro e w1 ⟨v,rfl,hv,hb1⟩
  have HB1:=Lib.hid (HB.out.trans (hb1.mono HB.out.size))
  have HV:=Lib.hid hv
  clear hb1 hv hO2 hW0
  go_wp2
  go_ret3
  exact ⟨_,rfl,HV.out,HB1.out⟩
 case pos =>
  subst h0
  obtain ⟨hm,hof⟩:=HE rfl
  obtain rfl:=HP rfl
  rw [if_pos rfl] at HS
  rw [HS.out]
  have hg:=may_gram hm
  have hv8:=may_value hm
  have hsmall:=hsm hm
  have h8 : n.k ≠ 8:=fun e => by rw [e] at hv8; exact absurd hv8 (by decide)
  have h10 : n.k ≠ 10:=fun e => by
   rw [ofP_brc,srN_bad _ _ (by simp [badS,e])] at hof
   cases hof
  have hne:=ink_ne hg hv8 h10
  have hP:=(par_any n hg hsmall).1 h8
  have hzz : sizeN n * 1048900 <= 100000000000:=by omega
  clear hA hA0 hO bX alk ho hE hPP HE HP HS hm hof hg hv8 hsm h8 h10
  unfold InkFn at hP
  generalize inkN n = L at *
  go_enter Tryz.func16,Tryz.ntmps16
  go_wp2_with fail
  refine hO2.mono ?_
  rintro e w1 ⟨v,rfl,hv,hb1⟩
  have hX1:=HX.out.below hb1 HX.out.lt
  have HB1:=Lib.hid (HB.out.trans (hb1.mono HB.out.size))
  have hA1:=HA.out.upp hb1
  have hbw:=BldAt.new w1 w1.heap.size (Nat.le_refl _)
  have al2 : Below w1.heap.size w1 (w1.alloc (.cells #[.pointer none,.slice none 0 0] 60)):=(Below.refl _ _).alloc (Nat.le_refl _) _
  obtain ⟨x0,x1,x2,x3⟩:=nbox (hX1.below al2 hX1.lt)
  have hC:=hP w1.heap.size w1.heap.size [] A c _ hbw (hA1.below al2) al2.size (by simpa using hzz)
  rw [List.nil_append] at hC
  have HAL:=Lib.hid al2
  clear hb1 hv hO2 hW0 hX1 hA1 hbw al2 hP HX HA HB
  unfold OutPost at hC
  go_wp2_with fail
  refine hC.mono ?_
  rintro e w2 ⟨rfl,h2,hb2,_⟩
  have HB2:=Lib.hid (HB1.out.trans ((HAL.out.trans hb2).mono HB1.out.size))
  have hS:=bstring_any w1.heap.size w1.heap.size L w2 h2 hne
  have hs1:=HB1.out.size
  clear hb2 hC HAL
  go_wp2_with fail
  refine hS.mono ?_
  rintro e w3 ⟨rfl,hb3⟩
  have HB3:=Lib.hid (HB2.out.trans (hb3.mono hs1))
  clear hb3 hS
  go_wp2
  go_ret3
  exact ⟨_,rfl,IRead.nil _ _,HB3.out⟩
def NodeBlk (w : World) (b : Nat) : Prop:=∃ cur,w.heap[b]? = some (.cells cur 24 (0,0))
structure KV where
 n : Nd
 a : Option Addr
 c : Nat
def kvC (q : KV) : List Value:=ndC q.n q.a q.c
def kvCs (l : List KV) : List Value:=l.flatMap kvC
theorem kvCs_snoc (l : List KV) (x : KV) : kvCs (l ++ [x]) = kvCs l ++ kvC x:=by simp [kvCs]
def Fresh (base : Nat) (w : World) (b o : Nat) : Prop:=base <= b /\ o = 0 /\ NodeBlk w b
structure NRow (w : World) (base : Nat) (v : Value) (ks : List KV) : Prop where
 row : w.ownsRow base 24 4 v ks.length (kvCs ks)
 kids : ∀ q ∈ ks,NAt (fun b o => Fresh base w b o /\ some b ≠ v.ownBlock) w q.n q.a q.c
section
variable {w w' : World} {base : Nat} {v v' : Value} {ks : List KV}
theorem cell_lt' {b : Nat} (h : ∃ i u,w.cell? ⟨b,i,none⟩ = some u) : b < w.heap.size:=by obtain ⟨_,_,h⟩:=h; exact cell_lt h
theorem cells_same {b : Nat} (h : w'.heap[b]? = w.heap[b]?) : ∀ i u,w.cell? ⟨b,i,none⟩ = some u -> w'.cell? ⟨b,i,none⟩ = some u:=fun i u hu => by
 rw [<- hu]; unfold World.cell?; rw [h]
theorem NRow.nil (w : World) (base : Nat) : NRow w base (.slice none 0 0) []:=⟨World.ownsRow_nil w base _ 4,fun q hq => (by cases hq)⟩
theorem NRow.below (h : NRow w base v ks) (hb : Below w.heap.size w w') : NRow w' base v ks :=
 ⟨row_tch (base:=base) (p:=fun _ => False) h.row (Tch.of_below hb) (fun _ _ h => h),fun q hq => (h.kids q hq).keep fun b o hs hc =>
  ⟨cells_same (hb.block b (cell_lt' hc)),⟨hs.1.1,hs.1.2.1,by obtain ⟨cur,hh⟩:=hs.1.2.2; exact ⟨cur,by rw [hb.block b (cell_lt' hc)]; exact hh⟩⟩,hs.2⟩⟩
theorem own_step {n : Nd} {A : Option Addr} {c : Nat} (h : NAt (fun b o => Fresh base w b o /\ some b ≠ v.ownBlock) w n A c) (hO : OStep w v w' v') : NAt (fun b o => Fresh base w' b o /\ some b ≠ v'.ownBlock) w' n A c :=
 h.keep fun b o hs hc => by
  have hl:=cell_lt' hc
  have he:=hO.heap hl hs.2
  refine ⟨cells_same he,⟨hs.1.1,hs.1.2.1,?_⟩,fun e => ?_⟩
  ·obtain ⟨cur,hh⟩:=hs.1.2.2
   exact ⟨cur,by rw [he]; exact hh⟩
  ·rcases hO.own with h1 | ⟨g',h1,h2⟩
   ·exact hs.2 (e.trans h1)
   ·rw [h1] at e; injection e with e; omega
theorem NRow.push (h : NRow w base v ks) {q : KV} (hq : NAt (fun b o => Fresh base w b o /\ some b ≠ v.ownBlock) w q.n q.a q.c) (hO : OStep w v w' v') (hr : w'.ownsRow base 24 4 v' (ks.length + 1) (kvCs ks ++ kvC q)) : NRow w' base v' (ks ++ [q]):=by
 refine ⟨by rw [kvCs_snoc,List.length_append]; exact hr,fun q' hq' => ?_⟩
 rcases List.mem_append.1 hq' with hq' | hq'
 ·exact own_step (h.kids q' hq') hO
 ·simp at hq'
  subst hq'
  exact own_step hq hO
theorem Fresh.below {n : Nd} {A : Option Addr} {c : Nat} (h : NAt (Fresh base w) w n A c) (hb : Below w.heap.size w w') : NAt (Fresh base w') w' n A c :=
 h.keep fun b _ hs hc => ⟨cells_same (hb.block b (cell_lt' hc)),hs.1,hs.2.1,by obtain ⟨cur,hh⟩:=hs.2.2; exact ⟨cur,by rw [hb.block b (cell_lt' hc)]; exact hh⟩⟩
theorem NRow.set (h : NRow w base v ks) {p : Addr} (hp : p.block < base) (u : Value) : NRow (w.setCell p u) base v ks :=
 ⟨World.ownsRow.kept h.row (only_setCell (g:=p.block) (World.grownBy.refl w _) (.inl rfl) u) (.inr fun e => by have:=(World.ownsRow.lt h.row p.block e).1; omega),fun q hq => (h.kids q hq).keep fun b _ hs _ => by
  have hh:=Below.heap_setCell w p u b (by have:=hs.1.1; omega)
  exact ⟨cells_same hh,⟨hs.1.1,hs.1.2.1,by obtain ⟨cur,h1⟩:=hs.1.2.2; exact ⟨cur,by rw [hh]; exact h1⟩⟩,hs.2⟩⟩
theorem Fresh.set {n : Nd} {A : Option Addr} {c : Nat} (h : NAt (Fresh base w) w n A c) {p : Addr} (hp : p.block < base) (u : Value) : NAt (Fresh base (w.setCell p u)) (w.setCell p u) n A c :=
 h.keep fun b _ hs _ => by
  have hh:=Below.heap_setCell w p u b (by have:=hs.1; omega)
  exact ⟨cells_same hh,hs.1,hs.2.1,by obtain ⟨cur,h1⟩:=hs.2.2; exact ⟨cur,by rw [hh]; exact h1⟩⟩
theorem Fresh.lower {B : Nat} {n : Nd} {A : Option Addr} {c : Nat} (h : NAt (Fresh B w) w n A c) (hB : base <= B) : NAt (Fresh base w) w n A c:=h.weaken fun _ _ hs => ⟨Nat.le_trans hB hs.1,hs.2⟩
theorem NRow.hold (h : NRow w base v ks) (hh : ∀ i,base <= i -> i < w.heap.size -> w'.heap[i]? = w.heap[i]?) : NRow w' base v ks:=by
 refine ⟨⟨h.row.1,?_⟩,fun q hq => (h.kids q hq).keep fun b _ hs hc => ?_⟩
 ·rcases h.row.2 with hn | ⟨g,cap,cur,hv,hg,hb,r⟩
  ·exact .inl hn
  ·exact .inr ⟨g,cap,cur,hv,hg,by rw [hh g hg (Blk.lt hb)]; exact hb,r⟩
 ·have he:=hh b hs.1.1 (cell_lt' hc)
  exact ⟨cells_same he,⟨hs.1.1,hs.1.2.1,by obtain ⟨cur,h1⟩:=hs.1.2.2; exact ⟨cur,by rw [he]; exact h1⟩⟩,hs.2⟩
theorem Fresh.hold {n : Nd} {A : Option Addr} {c : Nat} (h : NAt (Fresh base w) w n A c) (hh : ∀ i,base <= i -> i < w.heap.size -> w'.heap[i]? = w.heap[i]?) : NAt (Fresh base w') w' n A c :=
 h.keep fun b _ hs hc => by
  have he:=hh b hs.1 (cell_lt' hc)
  exact ⟨cells_same he,hs.1,hs.2.1,by obtain ⟨cur,h1⟩:=hs.2.2; exact ⟨cur,by rw [he]; exact h1⟩⟩
theorem NRow.lt (h : NRow w base v ks) : ∀ g,v.ownBlock = some g -> g < w.heap.size:=fun g hg => (World.ownsRow.lt h.row g hg).2
theorem NRow.shape (h : NRow w base v ks) : ∃ A c,v = .slice A ks.length c:=by
 rcases h.row.2 with ⟨rfl,h0⟩ | ⟨g,cap,cur,rfl,_⟩
 ·exact ⟨_,_,by rw [h0]⟩
 ·exact ⟨_,_,rfl⟩
end
open Go Go.RowKit
variable [Fo]
section
variable {P : Program} {ops : Array Oper} {Q : Exit -> Act -> World -> Prop} {md : Region.Mode} {S : World -> Prop} {Es : List Nat}
end
section
variable {P : Program} {ops : Array Oper} {Q : Exit -> Act -> World -> Prop} {md : Region.Mode} {S : World -> Prop} {Es : List Nat}
end
end Go.Proofs.YtbnppjmmlfncmaaGreatDoor
namespace Go.Proofs.YtbnppjmmlfncmaaGreatDoor
open Go.RowKit Go.Maps
theorem ERead.tail {w : World} {b o c : Nat} {x : Ev} {xs : List Ev} (h : ERead w (.slice (some ⟨b,o,none⟩) (xs.length + 1) c) (x :: xs)) : ERead w (.slice (some (if c = 1 then ⟨b,o,none⟩ else ⟨b,o + 3,none⟩)) xs.length (c - 1)) xs:=by
 obtain ⟨A,c',hv,h1,h2,h3⟩:=h
 injection hv with e1 e2 e3
 subst e1 e3
 simp only [List.length_cons] at h1
 obtain ⟨b',o',hA,hc⟩:=h3 (by simp)
 injection hA with hA
 injection hA with hb ho
 subst hb ho
 refine ⟨_,_,rfl,by omega,by omega,fun hp => ⟨b,o + 3,by rw [if_neg (by omega)],fun j hj => ?_⟩⟩
 obtain ⟨q0,q1,q2⟩:=hc (j + 1) (by simp; omega)
 simp only [List.getElem_cons_succ] at q0 q1 q2
 rw [show o + 3 + j * 3 = o + (j + 1) * 3 by omega]
 exact ⟨q0,q1,q2⟩
theorem ERead.head {w : World} {v : Value} {x : Ev} {xs : List Ev} (h : ERead w v (x :: xs)) : ∃ b o c,v = .slice (some ⟨b,o,none⟩) (xs.length + 1) c /\ xs.length + 1 <= c /\ c <= maxLen /\ w.cell? ⟨b,o,none⟩ = some (.int .i64 x.k) /\ w.cell? ⟨b,o + 1,none⟩ = some (.string x.t) /\ w.cell? ⟨b,o + 2,none⟩ = some (.string x.v):=by
 obtain ⟨A,c,rfl,h1,h2,h3⟩:=h
 obtain ⟨b,o,rfl,hc⟩:=h3 (by simp)
 obtain ⟨q0,q1,q2⟩:=hc 0 (by simp)
 refine ⟨b,o,c,by simp,by simpa using h1,h2,?_,?_,?_⟩
 ·simpa using q0
 ·simpa using q1
 ·simpa using q2
def ELow (B : Nat) (w : World) (v : Value) (xs : List Ev) : Prop:=ERead w v xs /\ (0 < xs.length -> ∃ b o l c,v = .slice (some ⟨b,o,none⟩) l c /\ b < B)
theorem ELow.hold {B : Nat} {w w' : World} {v : Value} {xs : List Ev} (h : ELow B w v xs) (hh : ∀ i,i < B -> w'.heap[i]? = w.heap[i]?) : ELow B w' v xs:=by
 obtain ⟨⟨A,c,rfl,h1,h2,h3⟩,hl⟩:=h
 refine ⟨⟨A,c,rfl,h1,h2,fun hp => ?_⟩,hl⟩
 obtain ⟨b,o,rfl,hc⟩:=h3 hp
 obtain ⟨b',o',l',c',hv,hb⟩:=hl hp
 injection hv with hv
 injection hv with hv
 injection hv with e1
 subst e1
 have hs:=cells_same (hh b hb)
 exact ⟨b,o,rfl,fun j hj => ⟨hs _ _ (hc j hj).1,hs _ _ (hc j hj).2.1,hs _ _ (hc j hj).2.2⟩⟩
theorem ELow.below {B : Nat} {w w' : World} {v : Value} {xs : List Ev} (h : ELow B w v xs) (hb : Below w.heap.size w w') (hB : B <= w.heap.size) : ELow B w' v xs:=h.hold fun i hi => hb.block i (by omega)
theorem ELow.head {B : Nat} {w : World} {v : Value} {x : Ev} {xs : List Ev} (h : ELow B w v (x :: xs)) : ∃ b o c,v = .slice (some ⟨b,o,none⟩) (xs.length + 1) c /\ xs.length + 1 <= c /\ c <= maxLen /\ w.cell? ⟨b,o,none⟩ = some (.int .i64 x.k) /\ w.cell? ⟨b,o + 1,none⟩ = some (.string x.t) /\ w.cell? ⟨b,o + 2,none⟩ = some (.string x.v) /\
 ELow B w (.slice (some (if c = 1 then ⟨b,o,none⟩ else ⟨b,o + 3,none⟩)) xs.length (c - 1)) xs:=by
 obtain ⟨b,o,c,rfl,h1,h2,q0,q1,q2⟩:=h.1.head
 refine ⟨b,o,c,rfl,h1,h2,q0,q1,q2,ERead.tail h.1,fun hp => ?_⟩
 obtain ⟨b',o',l',c',hv,hb⟩:=h.2 (by simp)
 injection hv with hv
 injection hv with hv
 injection hv with e1
 subst e1
 exact ⟨b,o + 3,_,_,by rw [if_neg (by omega)],hb⟩
def Two (W1 X : World) (nb rb : Nat) : Prop :=
 nb ≠ rb /\ W1.heap.size <= nb /\ W1.heap.size <= rb /\ Blk X nb 24 #[.int .i64 0,.string ⟨#[]⟩,.string ⟨#[]⟩,.slice none 0 0] /\ Blk X rb 36 #[.slice none 0 0] /\ Below W1.heap.size W1 X
section
variable {w w5 : World}
end
theorem shapedL_in : ∀ {l : List Nd} {n : Nd},shapedL l = true -> n ∈ l -> shaped n = true
 | x :: r,n,h,hn => by
  simp only [shapedL,Bool.and_eq_true] at h
  rcases List.mem_cons.1 hn with rfl | hn
  ·exact h.1
  ·exact shapedL_in h.2 hn
structure LoopAt (W1 wr : World) (B m rb nb : Nat) (k ek : Int) (t s : ByteArray) (kids : List Nd) (rest : List Ev) (A1 A2 : Option Addr) (c1 c2 L2 : Nat) (ks : List KV) : Prop where
 len : ks.length <= kids.length
 map : ks.map (·.n) = kids.take ks.length
 row : NRow wr m (.slice A1 ks.length c1) ks
 ev : ELow B wr (.slice A2 L2 c2) (flatL (kids.drop ks.length) ++ endE ek :: rest)
 el : (flatL (kids.drop ks.length) ++ endE ek :: rest).length = L2
 below : Below W1.heap.size W1 wr
 m : m <= wr.heap.size
theorem LoopAt.head {W1 wr : World} {B m rb nb : Nat} {k ek : Int} {t s : ByteArray} {kids : List Nd} {rest : List Ev} {A1 A2 : Option Addr} {c1 c2 L2 : Nat} {ks : List KV} (h : LoopAt W1 wr B m rb nb k ek t s kids rest A1 A2 c1 c2 L2 ks) (hsh : shapedL kids = true) (hek : endsK ek = true) (hlt : ks.length < kids.length) :
 ∃ b o kx x,A2 = some ⟨b,o,none⟩ /\ 0 < L2 /\ wr.cell? ⟨b,o,none⟩ = some (.int .i64 kx) /\ kx ≠ ek /\ x ∈ kids /\ kids.drop ks.length = x :: kids.drop (ks.length + 1) /\ ELow B wr (.slice A2 L2 c2) (flat x ++ (flatL (kids.drop (ks.length + 1)) ++ endE ek :: rest)) /\
  (flatL (kids.drop (ks.length + 1)) ++ endE ek :: rest).length < L2 /\ kids.take (ks.length + 1) = kids.take ks.length ++ [x]:=by
 have hdr : kids.drop ks.length = kids[ks.length] :: kids.drop (ks.length + 1):=List.drop_eq_getElem_cons hlt
 have hm:=List.getElem_mem hlt
 have ht:=List.take_succ_eq_append_getElem hlt
 have hsx:=shapedL_in hsh hm
 have hE:=h.ev
 have hl:=h.el
 rw [hdr] at hE hl
 generalize kids[ks.length] = x at *
 cases x with
 | mk kx tx sx lx =>
  simp only [flatL,List.append_assoc] at hE hl
  simp only [shaped,Bool.and_eq_true] at hsx
  have hh:=hE
  have e0 : flat (.mk kx tx sx lx) ++ (flatL (kids.drop (ks.length + 1)) ++ endE ek :: rest) = ⟨kx,tx,sx⟩ :: (flatL lx ++ endL kx ++ (flatL (kids.drop (ks.length + 1)) ++ endE ek :: rest)):=by simp [flat]
  have hl2:=hl
  rw [e0] at hh hl2
  obtain ⟨b,o,c,hv,_,_,q0,_⟩:=hh.head
  injection hv with e1 e2 e3
  refine ⟨b,o,kx,_,e1,by omega,q0,fun e => ?_,hm,hdr,hE,?_,ht⟩
  ·have:=shape_head hsx.1
   rw [e,hek] at this
   exact absurd this (by decide)
  ·rw [<- hl2]
   simp
   omega
theorem LoopAt.last {W1 wr : World} {B m rb nb : Nat} {k ek : Int} {t s : ByteArray} {kids : List Nd} {rest : List Ev} {A1 A2 : Option Addr} {c1 c2 L2 : Nat} {ks : List KV} (h : LoopAt W1 wr B m rb nb k ek t s kids rest A1 A2 c1 c2 L2 ks) (hlt : ¬ ks.length < kids.length) :
 ks.map (·.n) = kids /\ ∃ b o,A2 = some ⟨b,o,none⟩ /\ L2 = rest.length + 1 /\ L2 <= c2 /\ c2 <= 9223372036854775807 /\ wr.cell? ⟨b,o,none⟩ = some (.int .i64 ek) /\ ELow B wr (.slice (some (if c2 = 1 then ⟨b,o,none⟩ else ⟨b,o + 3,none⟩)) rest.length (c2 - 1)) rest:=by
 have hl:=h.len
 have hE:=h.ev
 rw [List.drop_eq_nil_of_le (by omega)] at hE
 simp only [flatL,List.nil_append] at hE
 obtain ⟨b,o,c,hv,h1,h2,q0,_,_,hT⟩:=hE.head
 injection hv with e1 e2 e3
 subst e3
 refine ⟨by rw [h.map,List.take_of_length_le (by omega)],b,o,e1,e2,by omega,by simpa [maxLen] using h2,q0,hT⟩
open Go.RowKit Go.Maps Go.Shelf
attribute [local go_sem] Oper.semAt_some
open Go.RowKit Go.ChangeShapes Go.WideShapes Go.Deep
mutual
def okW (R : Nat) : Nd -> Prop
 | .mk k t v kids => (-9223372036854775808 <= k /\ k <= 9223372036854775807 /\ t.size <= R /\ v.size <= R) /\ okWL R kids
def okWL (R : Nat) : List Nd -> Prop
 | [] => True
 | n :: r => okW R n /\ okWL R r
end
theorem okWL_mem {R : Nat} : ∀ {l : List Nd},okWL R l ↔ ∀ n ∈ l,okW R n
 | [] => by simp [okWL]
 | n :: r => by simp only [okWL,okWL_mem (l:=r),List.mem_cons,forall_eq_or_imp]
instance : Inhabited Nd:=⟨.mk 0 ⟨#[]⟩ ⟨#[]⟩ []⟩
theorem weightsAll_in {H : Type} {P : Program} {e : TypeId} : ∀ {l : List (DataW H)} {d : DataW H},d ∈ l -> ∀ n ∈ d.weights P e,n ∈ DataW.weightsAll P e l
 | x :: r,d,hd,n,hn => by
  simp only [DataW.weightsAll,List.mem_append]
  rcases List.mem_cons.1 hd with rfl | h
  ·exact Or.inl hn
  ·exact Or.inr (weightsAll_in h n hn)
theorem addr_addW (b o n : Nat) : (⟨b,o,none⟩ : Addr).add n = ⟨b,o + n,none⟩:=by unfold Addr.add; split <;> simp_all
set_option maxHeartbeats 4000000 in
theorem open_node {H : Type} {enc : TypeId × Value -> H} {w : World} {base : Nat} {spare : Nat -> Bool} {held : Bool} : ∀ (N n : Nat) (cs : List Value) (x : DataW H × List MemPlace),SizeOf.sizeOf x.1 < N ->
 DataW.trod enc Tryz.prog w base spare held n 24 cs = some x -> ∃ (nd : Nd) (A : Option Addr) (c : Nat),cs = [.int .i64 nd.k,.string nd.t,.string nd.v,.slice A nd.kids.length c] /\ NAt (fun b _ => b < w.heap.size) w nd A c /\
  ∀ R,(∀ k ∈ x.1.weights Tryz.prog 24,k <= R) -> okW R nd
 | 0,_,_,_,h,_ => absurd h (Nat.not_lt_zero _)
 | N + 1,n,cs,x,hN,h => by
  obtain ⟨ys,m,_,hy,hl,hyl,hf⟩:=DataW.trod_struct Tryz.underlying24 h
  have hC : Tryz.prog.cellsOf 24 = 4:=by kernel_rfl
  have hi : Tryz.prog.cellsOf 3 = 1:=by kernel_rfl
  have hs : Tryz.prog.cellsOf 9 = 1:=by kernel_rfl
  have hk : Tryz.prog.cellsOf 22 = 1:=by kernel_rfl
  rw [hC] at hl
  match cs,hl with
  | [c0,c1,c2,c3],_ =>
   match ys,hyl with
   | [y0,y1,y2,y3],_ =>
    have f0:=hf 0 _ rfl
    have f1:=hf 1 _ rfl
    have f2:=hf 2 _ rfl
    have f3:=hf 3 _ rfl
    simp [hi,hs,hk] at f0 f1 f2 f3
    obtain ⟨a,ha,e0,hw⟩:=DataW.trod_int Tryz.underlying3 f0
    obtain ⟨b,hb,e1,_⟩:=DataW.trod_string Tryz.underlying9 f1
    obtain ⟨c,hc,e2,_⟩:=DataW.trod_string Tryz.underlying9 f2
    cases ha
    cases hb
    cases hc
    simp [Lit.wf,IntKind.min,IntKind.max,IntKind.signed,IntKind.bits] at hw
    have hW : ∀ R,(∀ k ∈ x.1.weights Tryz.prog 24,k <= R) -> b.size <= R /\ c.size <= R /\ ∀ k ∈ y3.1.weights Tryz.prog 22,k <= R:=by
     intro R hR
     rw [hy] at hR
     simp [DataW.weights,DataW.weightsEach,Tryz.underlying24,e0,e1,e2] at hR
     exact hR
    rcases open_slice Tryz.underlying22 f3 with ⟨hcs,hx3⟩ | ⟨ad,len,cap,mm,kk,D,Pl,hcs,hbb,hl,hm,hmm,hx,hi⟩
    ·cases hcs
     exact ⟨.mk a b c [],none,0,rfl,NAt.leaf _ _ _ _ _ _,fun R hR => by
      obtain ⟨h1,h2,_⟩:=hW R hR
      simp only [okW,okWL]
      exact ⟨⟨by omega,by omega,h1,h2⟩,trivial⟩⟩
    ·cases hcs
     have hlm : len <= mm:=by rw [hmm]; split <;> omega
     have hsz : ∀ i,i < len -> SizeOf.sizeOf (D i) < N:=fun i hi => by
      have h1 : D i ∈ (List.range len).map D:=List.mem_map.2 ⟨i,List.mem_range.2 hi,rfl⟩
      have h2:=List.sizeOf_lt_of_mem h1
      have h3 : SizeOf.sizeOf y3.1 < SizeOf.sizeOf x.1:=by
       rw [hy]
       simp
       omega
      rw [hx] at h3
      simp at h3
      omega
     obtain ⟨V,hV⟩:=choose_lt (α:=Nd × Option Addr × Nat) (n:=len) (p:=fun i q => (∀ j u,[Value.int .i64 q.1.k,.string q.1.t,.string q.1.v,.slice q.2.1 q.1.kids.length q.2.2][j]? = some u -> w.cell? ((ad.add (i * 4)).add j) = some u) /\ NAt (fun b _ => b < w.heap.size) w q.1 q.2.1 q.2.2 /\ ∀ R,(∀ k ∈ (D i).weights Tryz.prog 24,k <= R) -> okW R q.1) (fun i him => by
      obtain ⟨cs',h1,h2⟩:=hi i (by omega)
      rw [hC] at h1
      obtain ⟨_,hlen,hc⟩:=World.cells?_some h1
      obtain ⟨nd,A,c',rfl,hN',hR'⟩:=open_node N kk cs' (D i,Pl i) (hsz i him) h2
      refine ⟨(nd,A,c'),fun j u hu => ?_,hN',hR'⟩
      have hj : j < 4:=by
       have:=(List.getElem?_eq_some_iff.1 hu).1
       simpa using this
      rw [hc j hj,hu])
     refine ⟨.mk a b c ((List.range len).map fun i => (V i).1),some ad,cap,by simp [Nd.k,Nd.t,Nd.v,Nd.kids],?_,fun R hR => ?_⟩
     ·rw [NAt.def_]
      simp only [Nd.kids,List.length_map,List.length_range]
      refine ⟨hl,hm,fun hp => ?_⟩
      have h0:=(hV 0 hp).1 0 _ rfl
      have hs':=World.cell?_spot h0
      obtain ⟨bb,oo,sp⟩:=ad
      obtain rfl : sp = none:=by simpa [Addr.add] using hs'
      simp only [addr_addW] at h0
      refine ⟨bb,oo,rfl,cell_lt h0,fun j hj => ?_⟩
      simp only [List.getElem_map,List.getElem_range]
      obtain ⟨hc,hn,_⟩:=hV j hj
      simp only [addr_addW] at hc
      exact ⟨(V j).2.1,(V j).2.2,hc 0 _ rfl,hc 1 _ rfl,hc 2 _ rfl,hc 3 _ rfl,hn⟩
     ·obtain ⟨h1,h2,h3⟩:=hW R hR
      simp only [okW]
      refine ⟨⟨by omega,by omega,h1,h2⟩,okWL_mem.2 fun nd hnd => ?_⟩
      obtain ⟨i,hi',rfl⟩:=List.mem_map.1 hnd
      have hi':=List.mem_range.1 hi'
      refine (hV i hi').2.2 R fun k hk => h3 k ?_
      rw [hx]
      simp only [DataW.weights,Tryz.underlying22,List.mem_cons,List.mem_append]
      exact Or.inr (Or.inl (weightsAll_in (List.mem_map.2 ⟨i,List.mem_range.2 hi',rfl⟩) k hk))
end Go.Proofs.YtbnppjmmlfncmaaGreatDoor
