/-
  carry: find: a search that is abandoned.
  carry: Of, given what its search does.
  inkbrace: what stands between two brackets; a value, a field.
  inkbrace: a value, a field.
  A region that draws its order and in which a call may fail.
-/
import Derived.Test.YtbnppjmmlfncmaaGreatDoorIrA01
import Derived.Test.YtbnppjmmlfncmaaGreatDoorIrA17
import Derived.Recover
import Derived.Laws.Pointers
import Derived.Test.YtbnppjmmlfncmaaGreatDoorIrA16
set_option maxRecDepth 100000
set_option linter.unusedSimpArgs false
set_option linter.unusedVariables false
set_option linter.unusedSectionVars false
namespace Go.Proofs.YtbnppjmmlfncmaaGreatDoor
open Go.RowKit Go.Maps
theorem fcatch_fail (r : Nat) (x v : Value) (y : Int) (n c : Nat) (A : Option Addr) (hv : v = .slice A n c) (w : World) (hB : Blk w r 27 #[x]) (hB2 : Blk w (r + 1) 28 #[.int .i64 y]) :
 CallsD Tryz.prog 46 #[.pointer (some ⟨r,0,none⟩),.pointer (some ⟨r + 1,0,none⟩)] (.panicking (foundP v)) w fun e u' w' =>
  e = .returned (.tuple #[]) /\ u' = .panicking [{ v:=foundV v,recovered:=true }] /\ w' = ((w.setCell ⟨r,0,none⟩ v).setCell ⟨r + 1,0,none⟩ (.int .i64 20)).alloc (.cells #[v] 89):=by
 subst hv
 have hB1:=hB.alloc (.cells #[.slice A n c] 89)
 have c0 : (w.alloc (.cells #[.slice A n c] 89)).cell? ⟨r,0,none⟩ = some x:=hB1.cell 0
 have f0:=hB1.frozen 0
 have c5 : w.cell? ⟨r,0,none⟩ = some x:=hB.cell 0
 have f5:=hB.frozen 0
 have c4 : w.cell? ⟨r + 1,0,none⟩ = some (.int .i64 y):=hB2.cell 0
 have f4:=hB2.frozen 0
 have hlt:=hB.lt
 have hlt2:=hB2.lt
 clear hB hB1 hB2
 refine callsD_of_wpS Tryz.func46 rfl fun c₀ cs hu => ?_
 apply wpS_seq
 apply wpS_region
 simp [wpOpsS,go_sem,recoverD,hu,foundP,Tryz.ntmps46,Exit.thenS]
 refine wpS_of_wp ?_
 unfold foundV
 have hta : ∀ w,(Instr.typeAssert (.iface 89 (.agg #[.slice A n c])) 20 89 true).run Tryz.prog w = .ok (.tuple #[.agg #[.slice A n c],.bool true]) w:=fun w => by rfl
 rw [show (Array.replicate 11 undef : Array Value) = #[undef,undef,undef,undef,undef,undef,undef,undef,undef,undef,undef] from rfl]
 simp only [List.setIfInBounds_toArray,List.set_cons_zero,List.set_cons_succ,List.append_toArray,List.cons_append,List.nil_append]
 go_wp2
 exact ⟨rfl,_,rfl,.tuple #[],by simp [results,Tryz.results46,go_sem],rfl,rfl,rfl⟩
theorem fcatch_none (r : Nat) (w : World) :
 CallsD Tryz.prog 46 #[.pointer (some ⟨r,0,none⟩),.pointer (some ⟨r + 1,0,none⟩)] .returning w fun e u' w' => e = .returned (.tuple #[]) /\ u' = .returning /\ w' = w:=by
 refine callsD_of_wpS Tryz.func46 rfl fun c₀ cs hu => ?_
 apply wpS_seq
 apply wpS_region
 simp [wpOpsS,go_sem,recoverD,hu,foundP,Tryz.ntmps46,Exit.thenS]
 refine wpS_of_wp ?_
 rw [show (Array.replicate 11 undef : Array Value) = #[undef,undef,undef,undef,undef,undef,undef,undef,undef,undef,undef] from rfl]
 simp only [List.setIfInBounds_toArray,List.set_cons_zero,List.set_cons_succ,List.append_toArray,List.cons_append,List.nil_append]
 go_wp2
 cases c₀
 simp only at hu
 subst hu
 exact ⟨rfl,_,rfl,.tuple #[],by simp [results,Tryz.results46,go_sem],rfl,rfl,rfl⟩
def iP (p : List Nat) : List Int:=p.map fun (i : Nat) => (i : Int)
theorem pV_iP (p : List Nat) : pV p = (iP p).map iV:=by simp [pV,iP,iV]
def FindPost (w : World) (r : Option (List Nat)) (e : Ending) (w' : World) : Prop :=
 ∃ v,e = .returned (.tuple #[v,.int .i64 (if r.isSome = true then 20 else 0)]) /\ IRead w' v (iP (r.getD [])) /\ Below w.heap.size w w'
def findW (w : World) : World:=((w.alloc (.cells #[.slice none 0 0] 27)).alloc (.cells #[.int .i64 0] 28)).alloc (.cells #[.slice none 0 0] 90)
theorem findW_below (w : World) : Below w.heap.size w (findW w):=(((Below.refl _ _).alloc (Nat.le_refl _) _).alloc (by simp) _).alloc (by simp; omega) _
theorem findW_si (w : World) : SI (w.heap.size + 2) (findW w) [] none:=by
 refine ⟨.slice none 0 0,?_,ORow.nil _ _ _,rfl⟩
 have:=Blk.new ((w.alloc (.cells #[.slice none 0 0] 27)).alloc (.cells #[.int .i64 0] 28)) 90 #[.slice none 0 0]
 rw [World.size_alloc,World.size_alloc] at this
 exact this
set_option maxHeartbeats 4000000 in
theorem find_any (w : World) (g : FuncId) (first cap : Array Value) (hef : ∀ args w,(callFunc g args).run Tryz.prog w = .ok (.enter g args) w) (r : Option (List Nat))
 (h : Calls Tryz.prog g (first.push (.pointer (some ⟨w.heap.size + 2,0,none⟩)) ++ cap) (findW w) (VPost (w.heap.size + 2) [] none (findW w) r)) :
 Calls Tryz.prog 27 #[.func (.func g) first cap] w (FindPost w r):=by
 have hmf : ∀ (fn : Fn) (first cap : Array Value) (w : World),(Instr.makeFunc fn first cap).run Tryz.prog w = .ok (.func fn first cap) w:=fun _ _ _ _ => rfl
 have b1 : Blk (findW w) w.heap.size 27 #[.slice none 0 0]:=((Blk.new w _ _).alloc _).alloc _
 have b2 : Blk (findW w) (w.heap.size + 1) 28 #[.int .i64 0]:=by
  have:=Blk.new (w.alloc (.cells #[.slice none 0 0] 27)) 28 #[.int .i64 0]
  rw [World.size_alloc] at this
  exact this.alloc _
 have hbw:=findW_below w
 have B1:=Lib.hid b1
 have B2:=Lib.hid b2
 have HW:=Lib.hid hbw
 unfold FindPost
 clear b1 b2 hbw
 go_enter_defers Tryz.func27,Tryz.ntmps27
 go_wp2
 refine h.mono ?_
 clear h
 rintro e w1 (⟨rfl,rfl,g',hI,hF⟩ | ⟨q,v,rfl,rfl,ho,hb⟩)
 case inl =>
  have hlow:=hF.low (findW_si w)
  have c1:=B1.out.below hlow (by omega)
  have c2:=B2.out.below hlow (by omega)
  have x1 : w1.cell? ⟨w.heap.size,0,none⟩ = some (.slice none 0 0):=c1.cell 0
  have x2 : w1.cell? ⟨w.heap.size + 1,0,none⟩ = some (.int .i64 0):=c2.cell 0
  have f1:=c1.frozen 0
  have f2:=c2.frozen 0
  have l1:=c1.lt
  have l2:=c2.lt
  have c3:=c1.set_ 0 (.slice none 0 0)
  have c4:=(c2.far (p:=⟨w.heap.size,0,none⟩) (by simp) (.slice none 0 0)).set_ 0 (.int .i64 0)
  have c5:=c3.far (p:=⟨w.heap.size + 1,0,none⟩) (by simp) (.int .i64 0)
  have r1 : ((w1.setCell ⟨w.heap.size,0,none⟩ (.slice none 0 0)).setCell ⟨w.heap.size + 1,0,none⟩ (.int .i64 0)).cell? ⟨w.heap.size,0,none⟩ = some (.slice none 0 0):=c5.cell 0
  have r2 : ((w1.setCell ⟨w.heap.size,0,none⟩ (.slice none 0 0)).setCell ⟨w.heap.size + 1,0,none⟩ (.int .i64 0)).cell? ⟨w.heap.size + 1,0,none⟩ = some (.int .i64 0):=c4.cell 0
  have HB:=Lib.hid (((HW.out.trans (hlow.mono (by omega))).setCell (p:=⟨w.heap.size,0,none⟩) (Nat.le_refl _) (.slice none 0 0)).setCell (p:=⟨w.heap.size + 1,0,none⟩) (by simp) (.int .i64 0))
  clear c1 c2 c3 c4 c5 hlow hI hF
  go_wp2
  refine leaves_cons (f:=46) (args:=#[.pointer (some ⟨w.heap.size,0,none⟩),.pointer (some ⟨w.heap.size + 1,0,none⟩)]) (by simp) (by simp [go_sem]) ?_
  refine (fcatch_none _ _).mono ?_
  rintro e u' w'' ⟨rfl,rfl,rfl⟩
  simp [Leaves,settle,results,Tryz.results27,go_sem,r1,r2]
  exact ⟨IRead.nil _ _,HB.out⟩
 case inr =>
  have c1:=B1.out.below hb (by omega)
  have c2:=B2.out.below hb (by omega)
  obtain ⟨A,n,c,hv⟩ : ∃ A n c,v = .slice A n c:=by obtain ⟨A,c,hv⟩:=ho.shape; exact ⟨A,_,c,hv⟩
  refine leaves_cons (f:=46) (args:=#[.pointer (some ⟨w.heap.size,0,none⟩),.pointer (some ⟨w.heap.size + 1,0,none⟩)]) (by simp) (by simp [go_sem]) ?_
  refine (fcatch_fail w.heap.size _ v _ n c A hv w1 c1 c2).mono ?_
  rintro e u' w'' ⟨rfl,rfl,rfl⟩
  have c3:=((c1.set_ 0 v).far (p:=⟨w.heap.size + 1,0,none⟩) (by simp) (.int .i64 20)).alloc (.cells #[v] 89)
  have c4:=((c2.far (p:=⟨w.heap.size,0,none⟩) (by simp) v).set_ 0 (.int .i64 20)).alloc (.cells #[v] 89)
  have r1 : ((((w1.setCell ⟨w.heap.size,0,none⟩ v).setCell ⟨w.heap.size + 1,0,none⟩ (.int .i64 20))).alloc (.cells #[v] 89)).cell? ⟨w.heap.size,0,none⟩ = some v:=c3.cell 0
  have r2 : ((((w1.setCell ⟨w.heap.size,0,none⟩ v).setCell ⟨w.heap.size + 1,0,none⟩ (.int .i64 20))).alloc (.cells #[v] 89)).cell? ⟨w.heap.size + 1,0,none⟩ = some (.int .i64 20):=c4.cell 0
  have hr : IRead ((((w1.setCell ⟨w.heap.size,0,none⟩ v).setCell ⟨w.heap.size + 1,0,none⟩ (.int .i64 20))).alloc (.cells #[v] 89)) v (iP q):=by
   have h1:=(ORow.set_farQ (ORow.set_farQ ho (p:=⟨w.heap.size,0,none⟩) (by simp; omega) v) (p:=⟨w.heap.size + 1,0,none⟩) (by simp) (.int .i64 20)).alloc (.cells #[v] 89)
   rw [List.nil_append,pV_iP] at h1
   exact IRead.of_row h1
  have hB : Below w.heap.size w ((((w1.setCell ⟨w.heap.size,0,none⟩ v).setCell ⟨w.heap.size + 1,0,none⟩ (.int .i64 20))).alloc (.cells #[v] 89)):=by
   have h2:=((HW.out.trans (hb.mono (by omega))).setCell (p:=⟨w.heap.size,0,none⟩) (Nat.le_refl _) v).setCell (p:=⟨w.heap.size + 1,0,none⟩) (by simp) (.int .i64 20)
   exact h2.alloc h2.size _
  simp [Leaves,settle,results,Tryz.results27,go_sem,r1,r2]
  exact ⟨hr,hB⟩
theorem NAt.upp {n : Nd} {A : Option Addr} {c : Nat} {w w' : World} (h : NAt (fun b _ => b < w.heap.size) w n A c) (hb : Below w.heap.size w w') : NAt (fun b _ => b < w'.heap.size) w' n A c :=
 (h.below hb).weaken fun _ _ hlt => Nat.lt_of_lt_of_le hlt hb.size
def RootAt (x : Int) (n : Nd) (r : Option (List Nat)) : Prop:=∀ (s : Nat) (path : List Nat) (g : Option Nat) (A : Option Addr) (c : Nat) (w : World),SI s w path g -> NAt (fun b _ => b < s) w n A c -> path.length + sizeN n <= 100000 ->
    Calls Tryz.prog 29 #[.pointer (some ⟨s,0,none⟩),.int .i64 x,.agg #[.int .i64 n.k,.string n.t,.string n.v,.slice A n.kids.length c]] w (VPost s path g w r)
theorem ofc_any (x : Int) (n : Nd) (r : Option (List Nat)) (hr : RootAt x n r) (s : Nat) (path : List Nat) (g : Option Nat) (A : Option Addr) (c : Nat) (w : World) (hi : SI s w path g) (hA : NAt (fun b _ => b < s) w n A c) (hl : path.length + sizeN n <= 100000)
 (b1 b2 : Nat) (h1 : Blk w b1 3 #[.int .i64 x]) (h2 : Blk w b2 24 #[.int .i64 n.k,.string n.t,.string n.v,.slice A n.kids.length c]) :
 Calls Tryz.prog 28 #[.pointer (some ⟨s,0,none⟩),.pointer (some ⟨b1,0,none⟩),.pointer (some ⟨b2,0,none⟩)] w (VPost s path g w r):=by
 have hR:=hr s path g A c w hi hA hl
 have c0 : w.cell? ⟨b1,0,none⟩ = some (.int .i64 x):=h1.cell 0
 obtain ⟨z0,z1,z2,z3⟩:=nbox h2
 clear hi hA hl h1 h2 hr
 go_enter Tryz.func28,Tryz.ntmps28
 go_wp2_with fail
 refine hR.mono ?_
 rintro e w1 (⟨hr,rfl,h⟩ | ⟨q,v,hr,rfl,h⟩)
 ·go_wp2
  go_end0
  exact .inl ⟨hr,rfl,h⟩
 ·exact ⟨rfl,.inr ⟨q,v,hr,rfl,h⟩⟩
def OfPost (x : Int) (n : Nd) (r : Option (List Nat)) (w : World) (e : Ending) (w' : World) : Prop :=
 ∃ v,e = .returned (.tuple #[v,.int .i64 (if mayN n = 0 then (if r.isSome = true then 20 else 0) else mayN n)]) /\ IRead w' v (if mayN n = 0 then iP (r.getD []) else []) /\ Below w.heap.size w w'
set_option maxHeartbeats 4000000 in
theorem of_gen (x : Int) (hx : 1 <= x /\ x <= 6) (n : Nd) (r : Option (List Nat)) (hr : mayN n = 0 -> RootAt x n r) (A : Option Addr) (c : Nat) (w : World) (hw : Nm.StdW w) (hA : NAt (fun b _ => b < w.heap.size) w n A c) (ho : okT n) (hz : sizeN n <= 90000) :
 Calls Tryz.prog 11 #[.int .i64 x,.agg #[.int .i64 n.k,.string n.t,.string n.v,.slice A n.kids.length c]] w (OfPost x n r w):=by
 have hb : Below w.heap.size w ((w.alloc (.cells #[.int .i64 x] 3)).alloc (.cells #[.int .i64 n.k,.string n.t,.string n.v,.slice A n.kids.length c] 24)):=((Below.refl _ _).alloc (Nat.le_refl _) _).alloc (by simp) _
 have b1 : Blk ((w.alloc (.cells #[.int .i64 x] 3)).alloc (.cells #[.int .i64 n.k,.string n.t,.string n.v,.slice A n.kids.length c] 24)) w.heap.size 3 #[.int .i64 x]:=(Blk.new w _ _).alloc _
 have b2 : Blk ((w.alloc (.cells #[.int .i64 x] 3)).alloc (.cells #[.int .i64 n.k,.string n.t,.string n.v,.slice A n.kids.length c] 24)) (w.heap.size + 1) 24 #[.int .i64 n.k,.string n.t,.string n.v,.slice A n.kids.length c]:=by
  have:=Blk.new (w.alloc (.cells #[.int .i64 x] 3)) 24 #[.int .i64 n.k,.string n.t,.string n.v,.slice A n.kids.length c]
  rw [World.size_alloc] at this
  exact this
 obtain ⟨W0,hW0⟩ : ∃ W0,(w.alloc (.cells #[.int .i64 x] 3)).alloc (.cells #[.int .i64 n.k,.string n.t,.string n.v,.slice A n.kids.length c] 24) = W0:=⟨_,rfl⟩
 rw [hW0] at hb b1 b2
 have hA0:=hA.upp hb
 have hM:=tmay_any n A c W0 n.k n.t n.v n.kids.length ⟨rfl,rfl,rfl,rfl⟩ ho hA0 (hw.below hb)
 have x0 : W0.cell? ⟨w.heap.size,0,none⟩ = some (.int .i64 x):=b1.cell 0
 obtain ⟨z0,z1,z2,z3⟩:=nbox b2
 have hx1 : ¬ x < 1:=by omega
 have hx6 : ¬ 6 < x:=by omega
 have B1:=Lib.hid b1
 have B2:=Lib.hid b2
 have HB:=Lib.hid hb
 have HA0:=Lib.hid hA0
 unfold OfPost
 obtain ⟨E,hE⟩ : ∃ E,mayN n = E:=⟨_,rfl⟩
 rw [hE] at hM hr ⊢
 clear b1 b2 hb hA hA0 hx ho
 by_cases h0 : E = 0
 case neg =>
  have z5:=ibeq h0
  have z6:=ibne h0
  rw [if_neg h0,if_neg h0]
  clear hr h0
  go_enter Tryz.func11,Tryz.ntmps11
  go_wp2_with fail
  refine hM.mono ?_
  rintro e w1 ⟨rfl,hb1⟩
  have HB1:=Lib.hid (HB.out.trans (hb1.mono HB.out.size))
  clear hb1 hM hW0
  go_wp2
  go_ret2
  exact ⟨_,rfl,IRead.nil _ _,HB1.out⟩
 case pos =>
  subst h0
  have HRT:=Lib.hid (hr rfl)
  rw [if_pos rfl,if_pos rfl]
  obtain ⟨ER,hER⟩ : ∃ ER : Int,(if r.isSome = true then 20 else 0) = ER:=⟨_,rfl⟩
  obtain ⟨RP,hRP⟩ : ∃ RP,iP (r.getD []) = RP:=⟨_,rfl⟩
  rw [hER,hRP]
  have HER:=Lib.hid hER
  have HRP:=Lib.hid hRP
  clear hr hER hRP
  go_enter Tryz.func11,Tryz.ntmps11
  go_wp2_with fail
  refine hM.mono ?_
  rintro e w1 ⟨rfl,hb1⟩
  have hlo:=(findW_below w1)
  have hA1:=(HA0.out.upp hb1).below hlo
  have hC:=ofc_any x n r HRT.out (w1.heap.size + 2) [] none A c (findW w1) (findW_si w1) (hA1.weaken fun b _ h => by omega) (by simp; omega) w.heap.size (w.heap.size + 1) ((B1.out.below hb1 B1.out.lt).below hlo (by have:=B1.out.lt; have:=hb1.size; omega)) ((B2.out.below hb1 B2.out.lt).below hlo (by have:=B2.out.lt; have:=hb1.size; omega))
  have hF:=find_any w1 28 #[] #[.pointer (some ⟨w.heap.size,0,none⟩),.pointer (some ⟨w.heap.size + 1,0,none⟩)] (fun _ _ => rfl) r (by simpa using hC)
  have HB1:=Lib.hid (HB.out.trans (hb1.mono HB.out.size))
  unfold FindPost at hF
  rw [HER.out,HRP.out] at hF
  clear hb1 hM hW0 hC hA1 hlo HRT HER HRP
  go_wp2_with fail
  refine hF.mono ?_
  rintro e w2 ⟨v,rfl,hI,hb2⟩
  have HB2:=Lib.hid (HB1.out.trans (hb2.mono HB1.out.size))
  have HI:=Lib.hid hI
  clear hI hb2 hF
  go_wp2
  go_ret2
  exact ⟨_,rfl,HI.out,HB2.out⟩
def InkFn (g : FuncId) (n : Nd) : Prop:=∀ (B o : Nat) (xs : List UInt8) (A : Option Addr) (c : Nat) (w : World),BldAt w B o xs -> NAt (fun b _ => b < B) w n A c -> B <= w.heap.size -> xs.length + sizeN n * 1048900 <= 100000000000 ->
    Calls Tryz.prog g #[.pointer (some ⟨o,0,none⟩),.agg #[.int .i64 n.k,.string n.t,.string n.v,.slice A n.kids.length c]] w (OutPost B o w (xs ++ inkN n))
theorem BldAt.low {w w' : World} {B o : Nat} {l : List UInt8} (h : BldAt w B o l) (hb : Below w.heap.size w w') : BldAt w' B o l:=h.keep fun k ob _ hk _ _ _ => (hb.block k (by
 rcases Nat.lt_or_ge k w.heap.size with h | h
 ·exact h
 ·rw [Array.getElem?_eq_none h] at hk; cases hk)).trans hk
set_option maxHeartbeats 8000000 in
theorem iparts_any (g : FuncId) (hef : ∀ args w,(callFunc g args).run Tryz.prog w = .ok (.enter g args) w) (l : List Nd) (hv : ∀ n ∈ l,InkFn g n) (B o : Nat) (xs : List UInt8) (op cl : UInt8) (k : Int) (t v : ByteArray) (A : Option Addr) (c : Nat) (w : World) (h : BldAt w B o xs) (hA : NAt (fun b _ => b < B) w (.mk k t v l) A c) (hsm : smallL l)
 (hbase : B <= w.heap.size) (hsz : xs.length + (1 + sizeL l) * 1048900 <= 100000000000) :
 Calls Tryz.prog 55 #[.pointer (some ⟨o,0,none⟩),.int .u8 (op.toNat : Int),.slice A l.length c,.func (.func g) #[.pointer (some ⟨o,0,none⟩)] #[],.int .u8 (cl.toNat : Int)] w (OutPost B o w (xs ++ (op :: (inkL true l ++ [cl])))):=by
 obtain ⟨hlc,hcm,hkids⟩:=(NAt.def_ _ _ _).1 hA
 simp only [Nd.kids] at hlc hkids
 have hcm2 : c <= 9223372036854775807:=by simpa [maxLen] using hcm
 have HSL : Hid (∀ j,(inkL true (l.take j)).length <= sizeL (l.take j) * 1048900):=Lib.hid fun j => inkL_len _ (smallL_take l j hsm) true
 have HSE : Hid (l.take l.length = l):=Lib.hid List.take_length
 have HST : Hid (∀ j (h : j < l.length),sizeL (l.take j) + sizeN (l.getD j dNd) <= sizeL l):=Lib.hid (sizeL_take l)
 have HSA : Hid (∀ j (h : j < l.length),inkL true (l.take (j + 1)) = inkL true (l.take j) ++ ((if true = true /\ j = 0 then [] else [44]) ++ inkN (l.getD j dNd))):=Lib.hid (ink_at l true)
 have HA:=Lib.hid hA
 have HIH : Hid (∀ j (h : j < l.length),InkFn g (l.getD j dNd)):=Lib.hid fun j h => by rw [getDn h]; exact hv _ (List.getElem_mem h)
 have h1:=bbyte_any B o xs op w h (by omega) hbase
 unfold OutPost
 obtain ⟨L,hL⟩ : ∃ L,xs ++ (op :: (inkL true l ++ [cl])) = L:=⟨_,rfl⟩
 rw [hL]
 have HL:=Lib.hid hL
 clear hA hsm hkids hv h hL
 go_enter Tryz.func55,Tryz.ntmps55
 go_wp2_with fail
 refine h1.mono ?_
 rintro e w2 ⟨rfl,hB2,hb2,hk2⟩
 have HO2 : Hid (BldAt w2 B o (xs ++ op :: inkL true (l.take 0))):=Lib.hid (by simpa [inkL] using hB2)
 have HB2:=Lib.hid hb2
 have HK2:=Lib.hid hk2
 clear h1 hB2 hb2 hk2
 go_wp2
 go_loopw [19] (fun i wr => ∃ j : Nat,j <= l.length /\ i = .int .i64 (j : Int) /\ Hid (BldAt wr B o (xs ++ op :: inkL true (l.take j))) /\ Hid (Below B w wr) /\ Hid (KeepT w wr)) (fun i _ => l.length - (intOf i).toNat)
 case atStart => exact ⟨0,Nat.zero_le _,rfl,HO2,HB2,HK2⟩
 case round =>
  obtain ⟨j,hj,rfl,HO,HW,HT⟩:=hrel
  have hA':=HA.out.low (w':=wr) (fun q hq => HW.out.block q hq)
  obtain ⟨_,_,hkids⟩:=(NAt.def_ _ _ _).1 hA'
  simp only [Nd.kids] at hkids
  have hsj:=HSL.out j
  have hwl:=Nat.le_trans hbase HW.out.size
  by_cases hlt : j < l.length
  case pos =>
   obtain ⟨b,oo,rfl,hbo,hkid⟩:=hkids (by omega)
   have hk1:=hkid j hlt
   rw [<- getDn hlt] at hk1
   obtain ⟨BB,cB,q0,q1,q2,q3,hn1⟩:=hk1
   have hjc : j < c:=by omega
   have hst:=HST.out j hlt
   have hsa:=HSA.out j hlt
   have hih:=HIH.out j hlt
   clear hkid hkids hA' HSE HST HSA HIH HSL HO2 HB2
   unfold InkFn at hih
   generalize l.getD j dNd = kd at *
   obtain ⟨P,hP⟩ : ∃ P,xs ++ op :: inkL true (l.take j) = P:=⟨_,rfl⟩
   have hPl : P.length + sizeN kd * 1048900 + 1000 <= 100000000000:=by rw [<- hP]; simp only [List.length_append,List.length_cons]; omega
   have HN : Hid (∀ X,X = (if j = 0 then ([] : List UInt8) else [44]) -> xs ++ op :: inkL true (l.take (j + 1)) = (P ++ X) ++ inkN kd):=Lib.hid (by
    rintro X rfl
    rw [hsa,<- hP]
    simp [List.append_assoc])
   rw [hP] at HO
   clear hsa hst hsj hP
   have alk:=al_nd wr #[.int .i64 kd.k,.string kd.t,.string kd.v,.slice BB kd.kids.length cB]
   have bX:=Blk.new wr 24 #[.int .i64 kd.k,.string kd.t,.string kd.v,.slice BB kd.kids.length cB]
   have hO1:=HO.out.low alk
   have HNW:=Lib.hid (hn1.below alk)
   have hwa:=Nat.le_trans hwl alk.size
   obtain ⟨W1,hW1⟩ : ∃ W1,wr.alloc (.cells #[.int .i64 kd.k,.string kd.t,.string kd.v,.slice BB kd.kids.length cB] 24) = W1:=⟨_,rfl⟩
   rw [hW1] at alk bX hO1 HNW hwa
   have HAL:=Lib.hid (HW.out.trans (alk.mono hwl))
   have HAT:=Lib.hid (HT.out.trans (KeepT.of_below alk))
   by_cases hj0 : j = 0
   case pos =>
    have HZ:=Lib.hid (HN.out [] (by rw [if_pos hj0]))
    have hz : ¬ 0 < j:=by omega
    obtain ⟨x0,x1,x2,x3⟩:=nbox bX
    have hC:=hih B o P BB cB _ hO1 HNW.out hwa (by omega)
    clear HN hih bX hn1 hO1 hj0 alk
    go_wp2_with fail
    refine hC.mono ?_
    rintro e w3 ⟨rfl,hO3,hB3,hT3⟩
    have HB3:=Lib.hid (HAL.out.trans hB3)
    have HT3:=Lib.hid (HAT.out.trans hT3)
    clear hB3 hC hW1 hT3
    go_wp2
    go_roundw
    case rel => exact ⟨j + 1,by omega,by go_num,Lib.hid (by rw [HZ.out,List.append_nil]; exact hO3),HB3,HT3⟩
    case measure => first | (simp [intOf]; done) | (simp [intOf]; omega)
   case neg =>
    have HZ:=Lib.hid (HN.out [44] (by rw [if_neg hj0]))
    have hz : 0 < j:=by omega
    have hw1:=bbyte_any B o P 44 W1 hO1 (by omega) hwa
    have HX:=Lib.hid bX
    clear HN hj0 alk bX hn1 hO1
    go_wp2_with fail
    refine hw1.mono ?_
    rintro e w2 ⟨rfl,hO2,hb2,hk2⟩
    have HAL2:=Lib.hid (HAL.out.trans hb2)
    have HAT2:=Lib.hid (HAT.out.trans hk2)
    obtain ⟨x0,x1,x2,x3⟩:=nbox (HX.out.keepT hk2 (by decide) (by decide))
    have hC:=hih B o (P ++ [44]) BB cB w2 hO2 (HNW.out.low (fun q hq => hb2.block q hq)) (Nat.le_trans hwa hb2.size) (by simp only [List.length_append,List.length_cons,List.length_nil]; omega)
    clear hih hO2 hb2 hk2 hw1 hW1
    go_wp2_with fail
    refine hC.mono ?_
    rintro e w3 ⟨rfl,hO3,hB3,hT3⟩
    have HB3:=Lib.hid (HAL2.out.trans hB3)
    have HT3:=Lib.hid (HAT2.out.trans hT3)
    clear hB3 hC hT3
    go_wp2
    go_roundw
    case rel => exact ⟨j + 1,by omega,by go_num,Lib.hid (by rw [HZ.out]; exact hO3),HB3,HT3⟩
    case measure => first | (simp [intOf]; done) | (simp [intOf]; omega)
  case neg =>
   obtain rfl : j = l.length:=by omega
   have hse:=HSE.out
   rw [hse] at HO hsj
   clear hkids hA' hse
   have hlen : (xs ++ op :: inkL true l).length + 1000 <= 100000000000:=by
    simp only [List.length_append,List.length_cons]
    omega
   obtain ⟨P,hP⟩ : ∃ P,xs ++ op :: inkL true l = P:=⟨_,rfl⟩
   have HP : Hid (P ++ [cl] = L):=Lib.hid (by rw [<- HL.out,<- hP]; simp)
   rw [hP] at HO hlen
   clear hP
   have hw1:=bbyte_any B o P cl wr HO.out (by omega) hwl
   rw [HP.out] at hw1
   go_wp2_with fail
   refine hw1.mono ?_
   rintro e w2 ⟨rfl,hO2,hb2,hk2⟩
   have HB2:=Lib.hid (HW.out.trans hb2)
   have HK2:=Lib.hid (HT.out.trans hk2)
   clear hb2 hk2
   go_wp2
   go_end0
   exact ⟨rfl,hO2,HB2.out,HK2.out⟩
theorem ink_one (m : Nd) : inkL true [m] = inkN m:=by simp [inkL]
def ParAt (n : Nd) : Prop:=(n.k ≠ 8 -> InkFn 31 n) /\ (n.k = 8 -> InkFn 56 n)
set_option maxHeartbeats 8000000 in
theorem field_any (t v : ByteArray) (m : Nd) (hm : InkFn 31 m) (ht : t.size <= 1048576) : InkFn 56 (.mk 8 t v [m]):=by
 intro B o xs A c w h hA hB hsz
 have hsz2 : xs.length + (1 + sizeN m) * 1048900 <= 100000000000:=by simpa [sizeN,sizeL] using hsz
 simp only [Nd.k,Nd.t,Nd.v,Nd.kids]
 rw [inkN_8,ink_one]
 have alk:=al_nd w #[.int .i64 8,.string t,.string v,.slice A [m].length c]
 have bX:=Blk.new w 24 #[.int .i64 8,.string t,.string v,.slice A [m].length c]
 have hO1:=h.low alk
 have hwa:=Nat.le_trans hB alk.size
 have hA1:=hA.low (fun q hq => alk.block q (Nat.lt_of_lt_of_le hq hB))
 obtain ⟨W1,hW1⟩ : ∃ W1,w.alloc (.cells #[.int .i64 8,.string t,.string v,.slice A [m].length c] 24) = W1:=⟨_,rfl⟩
 simp only [List.length_cons,List.length_nil,Nat.zero_add] at hW1 alk bX hO1 hwa hA1 ⊢
 rw [hW1] at alk bX hO1 hwa hA1
 have hq:=oquoted_any B o xs t W1 hO1 (by omega) (by omega) hwa
 have x1 : W1.cell? ⟨w.heap.size,1,none⟩ = some (.string t):=bX.cell 1
 have HX:=Lib.hid bX
 have HAL:=Lib.hid (alk.mono hB)
 have HAT:=Lib.hid (KeepT.of_below alk)
 have hpl:=prText_len t.data.toList
 unfold OutPost at hq ⊢
 generalize Qt.prText t.data.toList = PT at *
 obtain ⟨L,hL⟩ : ∃ L,xs ++ (PT ++ ([58] ++ inkN m)) = L:=⟨_,rfl⟩
 rw [hL]
 have HL : Hid (xs ++ PT ++ [58] ++ inkN m = L):=Lib.hid (by rw [<- hL]; simp)
 clear hL alk bX hA h hO1 hsz
 go_enter Tryz.func56,Tryz.ntmps56
 go_wp2_with fail
 refine hq.mono ?_
 rintro e w2 ⟨rfl,hO2,hb2,hk2⟩
 have HB2:=Lib.hid (HAL.out.trans hb2)
 have HT2:=Lib.hid (HAT.out.trans hk2)
 have HX2:=Lib.hid (HX.out.keepT hk2 (by decide) (by decide))
 have hA2:=hA1.low (fun q hq => hb2.block q hq)
 have hwb:=Nat.le_trans hwa hb2.size
 have hc:=bbyte_any B o (xs ++ PT) 58 w2 hO2 (by simp only [List.length_append]; omega) hwb
 clear hb2 hk2 hA1 HX hq hW1 x1 HAL HAT hO2 hwa
 go_wp2_with fail
 refine hc.mono ?_
 rintro e w3 ⟨rfl,hO3,hb3,hk3⟩
 have HB3:=Lib.hid (HB2.out.trans hb3)
 have HT3:=Lib.hid (HT2.out.trans hk3)
 have hX3:=HX2.out.keepT hk3 (by decide) (by decide)
 have x3 : w3.cell? ⟨w.heap.size,3,none⟩ = some (.slice A 1 c):=hX3.cell 3
 have hA3:=hA2.low (fun q hq => hb3.block q hq)
 have hwc:=Nat.le_trans hwb hb3.size
 obtain ⟨hlc,hcm,hkids⟩:=(NAt.def_ _ _ _).1 hA3
 simp only [Nd.kids] at hlc hkids
 obtain ⟨b,oo,rfl,hbo,hkid⟩:=hkids (by simp)
 obtain ⟨BB,cB,q0,q1,q2,q3,hn1⟩:=hkid 0 (by simp)
 simp only [Nat.zero_mul,Nat.add_zero,List.getElem_cons_zero] at q0 q1 q2 q3 hn1
 have hlc1 : 1 <= c:=by simpa using hlc
 have hcm2 : c <= 9223372036854775807:=by simpa [maxLen] using hcm
 have hv:=hm B o (xs ++ PT ++ [58]) BB cB w3 hO3 hn1 hwc (by simp only [List.length_append,List.length_cons,List.length_nil]; omega)
 unfold OutPost at hv
 rw [HL.out] at hv
 clear hb3 hk3 hA2 hX3 HX2 hc hO3 hA3 hkids hkid hn1 HB2 HT2
 go_wp2_with fail
 refine hv.mono ?_
 rintro e w4 ⟨rfl,hO4,hb4,hk4⟩
 have HB4:=Lib.hid (HB3.out.trans hb4)
 have HT4:=Lib.hid (HT3.out.trans hk4)
 clear hb4 hk4
 go_wp2
 go_end0
 exact ⟨rfl,hO4,HB4.out,HT4.out⟩
set_option maxHeartbeats 8000000 in
theorem par_any (n : Nd) : gram n -> smallT n -> ParAt n:=by
 induction n using Nd.ind with
 | h k t v l ih =>
  intro hg hsm
  have hgh:=hg.head
  obtain ⟨hts,hvs,hls⟩:=id hsm
  refine ⟨fun h8 => ?_,fun h8 => ?_⟩
  ·simp only [Nd.k] at h8
   intro B o xs A c w h hA hB hsz
   have hsz2 : xs.length + (1 + sizeL l) * 1048900 <= 100000000000:=by simpa [sizeN] using hsz
   simp only [Nd.k,Nd.t,Nd.v,Nd.kids]
   have alk:=al_nd w #[.int .i64 k,.string t,.string v,.slice A l.length c]
   have bX:=Blk.new w 24 #[.int .i64 k,.string t,.string v,.slice A l.length c]
   have hO1:=h.low alk
   have hwa:=Nat.le_trans hB alk.size
   have hA1:=hA.low (fun q hq => alk.block q (Nat.lt_of_lt_of_le hq hB))
   have HAL:=Lib.hid (alk.mono hB)
   have HAT:=Lib.hid (KeepT.of_below alk)
   have x0 : (w.alloc (.cells #[.int .i64 k,.string t,.string v,.slice A l.length c] 24)).cell? ⟨w.heap.size,0,none⟩ = some (.int .i64 k):=bX.cell 0
   have x1 : (w.alloc (.cells #[.int .i64 k,.string t,.string v,.slice A l.length c] 24)).cell? ⟨w.heap.size,1,none⟩ = some (.string t):=bX.cell 1
   have x3 : (w.alloc (.cells #[.int .i64 k,.string t,.string v,.slice A l.length c] 24)).cell? ⟨w.heap.size,3,none⟩ = some (.slice A l.length c):=bX.cell 3
   obtain ⟨W1,hW1⟩ : ∃ W1,w.alloc (.cells #[.int .i64 k,.string t,.string v,.slice A l.length c] 24) = W1:=⟨_,rfl⟩
   rw [hW1] at hO1 hwa hA1 HAL HAT x0 x1 x3
   have hfin : ∀ L e w',OutPost B o W1 L e w' -> OutPost B o w L e w':=fun L e w' hh => ⟨hh.1,hh.2.1,HAL.out.trans hh.2.2.1,HAT.out.trans hh.2.2.2⟩
   have HF:=Lib.hid hfin
   obtain ⟨L,hL⟩ : ∃ L,xs ++ inkN (.mk k t v l) = L:=⟨_,rfl⟩
   rw [hL]
   by_cases h1 : k = 1
   ·subst h1
    rw [inkN_1] at hL
    have hw:=bstr_any B o xs ⟨#[110,117,108,108]⟩ W1 hO1 (show xs.length + 4 <= _ by omega) hwa
    rw [show (⟨#[110,117,108,108]⟩ : ByteArray).data.toList = [110,117,108,108] from rfl,hL] at hw
    clear ih hA alk bX h hg hgh hsm hls
    go_enter Tryz.func31,Tryz.ntmps31
    go_wp2_with fail
    refine hw.mono ?_
    rintro e w2 ⟨rfl,h2,hb2,hk2⟩
    have HP:=Lib.hid (HF.out L _ w2 ⟨rfl,h2,hb2,hk2⟩)
    clear hb2 hk2 h2
    go_wp2
    go_end0
    exact HP.out
   by_cases h4 : k = 4
   ·subst h4
    rw [inkN_4] at hL
    have hw:=oquoted_any B o xs t W1 hO1 (by omega) (by omega) hwa
    rw [hL] at hw
    clear ih hA alk bX h hg hgh hsm hls
    go_enter Tryz.func31,Tryz.ntmps31
    go_wp2_with fail
    refine hw.mono ?_
    intro e w2 hP
    have HP:=Lib.hid (HF.out L _ w2 hP)
    obtain ⟨rfl,_⟩:=hP
    go_wp2
    go_end0
    exact HP.out
   by_cases h5 : k = 5
   ·subst h5
    rw [inkN_5] at hL
    have hw:=iparts_any 31 (fun _ _ => rfl) l (fun m hm => (ih m hm (hg.kid hm) (smallL_mem.1 hls m hm)).1 (by have:=hgh.2.2.1 (.inl rfl) m hm; intro e; rw [e] at this; exact absurd this (by decide))) B o xs 91 93 5 t v A c W1 hO1 hA1 hls hwa hsz2
    rw [hL] at hw
    have e1 : ((91 : UInt8).toNat : Int) = 91:=rfl
    have e2 : ((93 : UInt8).toNat : Int) = 93:=rfl
    rw [e1,e2] at hw
    clear ih hA alk bX h hg hgh hsm hls hA1
    go_enter Tryz.func31,Tryz.ntmps31
    go_wp2_with fail
    refine hw.mono ?_
    intro e w2 hP
    have HP:=Lib.hid (HF.out L _ w2 hP)
    obtain ⟨rfl,_⟩:=hP
    go_wp2
    go_end0
    exact HP.out
   by_cases h7 : k = 7
   ·subst h7
    rw [inkN_7] at hL
    have hw:=iparts_any 56 (fun _ _ => rfl) l (fun m hm => (ih m hm (hg.kid hm) (smallL_mem.1 hls m hm)).2 ((hgh.2.2.2.1 rfl).1 m hm)) B o xs 123 125 7 t v A c W1 hO1 hA1 hls hwa hsz2
    rw [hL] at hw
    have e1 : ((123 : UInt8).toNat : Int) = 123:=rfl
    have e2 : ((125 : UInt8).toNat : Int) = 125:=rfl
    rw [e1,e2] at hw
    clear ih hA alk bX h hg hgh hsm hls hA1
    go_enter Tryz.func31,Tryz.ntmps31
    go_wp2_with fail
    refine hw.mono ?_
    intro e w2 hP
    have HP:=Lib.hid (HF.out L _ w2 hP)
    obtain ⟨rfl,_⟩:=hP
    go_wp2
    go_end0
    exact HP.out
   rw [inkN_e t v l h1 h4 h5 h7 h8] at hL
   have htl : t.data.toList.length = t.size:=by simp
   have hX1 : Blk W1 w.heap.size 24 #[.int .i64 k,.string t,.string v,.slice A l.length c]:=by rw [<- hW1]; exact bX
   have HW : Hid (∀ W',Below W1.heap.size W1 W' -> Calls Tryz.prog 53 #[.pointer (some ⟨o,0,none⟩),.string t] W' fun e w' => e = .returned (.tuple #[.int .i64 t.size,.nilIface]) /\ OutPost B o w L (.returned (.tuple #[])) w' /\ w'.cell? ⟨w.heap.size,1,none⟩ = some (.string t)):=Lib.hid fun W' hb => by
    have h5:=bstr_any B o xs t W' (hO1.low hb) (by omega) (Nat.le_trans hwa hb.size)
    rw [hL] at h5
    refine h5.mono ?_
    rintro e w2 ⟨rfl,h2,hb2,hk2⟩
    exact ⟨rfl,HF.out L _ w2 ⟨rfl,h2,(hb.mono hwa).trans hb2,(KeepT.of_below hb).trans hk2⟩,((hX1.below hb hX1.lt).keepT hk2 (by decide) (by decide)).cell 1⟩
   have z1:=ibeq h1
   have z4:=ibeq h4
   have z5:=ibeq h5
   have z7:=ibeq h7
   clear ih hA alk bX h hg hgh hsm hls hA1 hfin HF HAL HAT hX1 hL h1 h4 h5 h7 h8
   go_enter Tryz.func31,Tryz.ntmps31
   go_wp2
   go_region_held3 (fun w' => w'.cell? ⟨w.heap.size,1,none⟩ = some (.string t))
    (first
     | exact x1
     | exact y1
     | go_keep)
    (first
     | (go_at_call 53; refine (HW.out _ (below_drew (Below.refl _ _))).mono ?_; rintro e w2 ⟨rfl,hpo,y1⟩))
   go_wp2
   go_end0
   exact hpo
  ·simp only [Nd.k] at h8
   subst h8
   obtain ⟨m,hm,hv8,hgm⟩:=hg.key rfl
   simp only [Nd.kids] at hm
   subst hm
   refine field_any t v m ((ih m (by simp) hgm (smallL_mem.1 hls m (by simp))).1 ?_) hts
   intro e
   rw [e] at hv8
   exact absurd hv8 (by decide)
variable [Fo]
end Go.Proofs.YtbnppjmmlfncmaaGreatDoor
