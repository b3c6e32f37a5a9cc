/-
  carry: the search: where it stands, what it turns; refuse, kids.
  carry: find: a search that is abandoned.
  carry: Of, given what its search does.
-/
import Derived.Test.YtbnppjmmlfncmaaGreatDoorIsA08
import Derived.Test.YtbnppjmmlfncmaaGreatDoorIsA20
import Derived.IntWalk
import Derived.Recover
import Derived.Laws.Pointers
import Derived.Test.YtbnppjmmlfncmaaGreatDoorIsA19
set_option maxRecDepth 100000
set_option linter.unusedSimpArgs false
set_option linter.unusedVariables false
namespace Go.Proofs.YtbnppjmmlfncmaaGreatDoor
open Go.RowKit Go.Maps
def pV (p : List Nat) : List Value:=p.map fun (i : Nat) => Value.int .i64 (i : Int)
def SI (s : Nat) (w : World) (path : List Nat) (g : Option Nat) : Prop:=∃ v : Value,Blk w s 90 #[v] /\ ORow w (s + 1) 3 v (pV path) /\ v.ownBlock = g
structure FrS (s : Nat) (g : Option Nat) (w w' : World) (g' : Option Nat) : Prop where
 os : w'.os = w.os
 tape : w'.tape = w.tape
 output : w'.output = w.output
 size : w.heap.size <= w'.heap.size
 block : ∀ k,k < w.heap.size -> k ≠ s -> some k ≠ g -> w'.heap[k]? = w.heap[k]?
 own : g' = g \/ ∀ q,g' = some q -> w.heap.size <= q
theorem FrS.trans {s : Nat} {g g1 g2 : Option Nat} {w w1 w2 : World} (h : FrS s g w w1 g1) (k : FrS s g1 w1 w2 g2) : FrS s g w w2 g2:=by
 refine ⟨k.os.trans h.os,k.tape.trans h.tape,k.output.trans h.output,Nat.le_trans h.size k.size,fun i hi hs hg => ?_,?_⟩
 ·refine (k.block i (Nat.lt_of_lt_of_le hi h.size) hs ?_).trans (h.block i hi hs hg)
  rcases h.own with e | e
  ·rw [e]; exact hg
  ·intro he
   have:=e i he.symm
   omega
 ·rcases k.own with e | e
  ·rw [e]; exact h.own
  ·exact .inr fun q hq => Nat.le_trans h.size (e q hq)
theorem FrS.refl (s : Nat) (g : Option Nat) (w : World) : FrS s g w w g:=⟨rfl,rfl,rfl,Nat.le_refl _,fun _ _ _ _ => rfl,.inl rfl⟩
theorem FrS.of_below {s : Nat} {g : Option Nat} {w w' : World} (h : Below w.heap.size w w') : FrS s g w w' g:=⟨h.os,h.tape,h.output,h.size,fun k hk _ _ => h.block k hk,.inl rfl⟩
theorem SI.below {s : Nat} {w w' : World} {path : List Nat} {g : Option Nat} (h : SI s w path g) (hb : Below w.heap.size w w') : SI s w' path g:=by
 obtain ⟨v,h1,h2,h3⟩:=h
 exact ⟨v,h1.below hb h1.lt,h2.below hb (fun q hq => (World.ownsRow.lt h2 q hq).2),h3⟩
theorem SI.lt {s : Nat} {w : World} {path : List Nat} {g : Option Nat} (h : SI s w path g) : s < w.heap.size:=h.choose_spec.1.lt
theorem SI.own {s : Nat} {w : World} {path : List Nat} {g : Option Nat} (h : SI s w path g) : ∀ q,g = some q -> s + 1 <= q /\ q < w.heap.size:=by
 obtain ⟨v,_,h2,h3⟩:=h
 intro q hq
 exact World.ownsRow.lt h2 q (h3.trans hq)
theorem FrS.low {s : Nat} {g g' : Option Nat} {w w' : World} {path : List Nat} (h : FrS s g w w' g') (hi : SI s w path g) : Below s w w' :=
 ⟨h.os,h.tape,h.output,h.size,fun k hk => h.block k (Nat.lt_trans hk hi.lt) (by omega) (fun e => by have:=(hi.own k e.symm).1; omega)⟩
def Bes (s : Nat) (g : Option Nat) (w : World) (k : Nat) (t : TypeId) (cs : Array Value) : Prop:=Blk w k t cs /\ k ≠ s /\ some k ≠ g
theorem Bes.new {s : Nat} {g : Option Nat} {w : World} {path : List Nat} (hi : SI s w path g) (t : TypeId) (cs : Array Value) : Bes s g (w.alloc (.cells cs t)) w.heap.size t cs :=
 ⟨Blk.new w t cs,by have:=hi.lt; omega,fun e => by have:=(hi.own _ e.symm).2; omega⟩
theorem Bes.below {s : Nat} {g : Option Nat} {w w' : World} {k : Nat} {t : TypeId} {cs : Array Value} (h : Bes s g w k t cs) (hb : Below w.heap.size w w') : Bes s g w' k t cs:=⟨h.1.below hb h.1.lt,h.2⟩
def foundV (v : Value) : Value:=.iface 89 (.agg #[v])
def foundP (v : Value) : List PanicEntry:=[{ v:=foundV v,recovered:=false }]
def VPost (s : Nat) (path : List Nat) (g : Option Nat) (w : World) (r : Option (List Nat)) (e : Ending) (w' : World) : Prop :=
 (r = none /\ e = .returned (.tuple #[]) /\ ∃ g',SI s w' path g' /\ FrS s g w w' g') \/
 (∃ q v,r = some q /\ e = .panicked (foundP v) /\ ORow w' (s + 1) 3 v (pV (path ++ q)) /\ Below s w w')
theorem VPost.pre {s : Nat} {path : List Nat} {g g1 : Option Nat} {w w1 : World} {r : Option (List Nat)} {e : Ending} {w' : World} (hi : SI s w path g) (f : FrS s g w w1 g1) (h : VPost s path g1 w1 r e w') : VPost s path g w r e w':=by
 rcases h with ⟨h1,h2,g',h3,h4⟩ | ⟨q,v,h1,h2,h3,h4⟩
 ·exact .inl ⟨h1,h2,g',h3,f.trans h4⟩
 ·exact .inr ⟨q,v,h1,h2,h3,(f.low hi).trans h4⟩
theorem refuse_no (s : Nat) (w : World) :
 Calls Tryz.prog 83 #[.pointer (some ⟨s,0,none⟩),.bool false] w fun e w' => e = .returned (.tuple #[]) /\ w' = w:=by
 go_enter Tryz.func83,Tryz.ntmps83
 go_wp2
 go_end0
 exact ⟨rfl,rfl⟩
theorem refuse_yes (s : Nat) (path : List Nat) (g : Option Nat) (w : World) (hi : SI s w path g) :
 Calls Tryz.prog 83 #[.pointer (some ⟨s,0,none⟩),.bool true] w fun e w' => ∃ v,e = .panicked (foundP v) /\ ORow w' (s + 1) 3 v (pV path) /\ Below w.heap.size w w':=by
 obtain ⟨v,h1,h2,h3⟩:=hi
 obtain ⟨A,cap,rfl⟩:=h2.shape
 have c0 : w.cell? ⟨s,0,none⟩ = some (.slice A (pV path).length cap):=h1.cell 0
 unfold foundP foundV
 go_enter Tryz.func83,Tryz.ntmps83
 go_wp2
 exact ⟨rfl,_,rfl,h2,Below.refl _ _⟩
theorem pV_snoc (p : List Nat) (j : Nat) : pV (p ++ [j]) = pV p ++ [.int .i64 (j : Int)]:=by simp [pV]
theorem pV_len (p : List Nat) : (pV p).length = p.length:=by simp [pV]
theorem ORow.shapeP {w : World} {base : Nat} {e : TypeId} {v : Value} {xs : List Value} {n : Nat} (h : ORow w base e v xs) (hn : xs.length = n) : ∃ A c,v = .slice A n c:=by subst hn; exact h.shape
theorem ORow.cut {w : World} {base : Nat} {e : TypeId} {g n c : Nat} {xs : List Value} {u : Value} (h : ORow w base e (.slice (some ⟨g,0,none⟩) n c) (xs ++ [u])) : ORow w base e (.slice (some ⟨g,0,none⟩) xs.length c) xs:=by
 have hl:=h.1
 rcases h.2 with ⟨hv,_⟩ | ⟨g',cap',cur,hv,hg,hh,hnc,hm,hs,ht⟩
 ·cases hv
 ·injection hv with h1 h2 h3
  injection h1 with h1
  injection h1 with h1
  subst h1 h3
  refine ⟨by simp,.inr ⟨g,c,cur,rfl,hg,hh,?_,hm,hs,?_⟩⟩
  ·simp at hnc; omega
  ·have:=congrArg (List.take xs.length) ht
   rw [List.take_take] at this
   simp only [List.length_append,List.length_cons,List.length_nil,Nat.mul_one] at this ⊢
   rw [Nat.min_eq_left (by omega)] at this
   rw [this]
   simp
set_option maxHeartbeats 4000000 in
theorem kids_any (s : Nat) (path : List Nat) (gr : Option Nat) (k : Int) (t v : ByteArray) (l : List Nd) (A : Option Addr) (c : Nat) (w : World) (hi : SI s w path gr) (hA : NAt (fun b _ => b < s) w (.mk k t v l) A c) (hlen : path.length <= 100000) (hll : l.length <= 1000000)
 (g : FuncId) (first cap : Array Value) (hef : ∀ args w,(callFunc g args).run Tryz.prog w = .ok (.enter g args) w) (R : Nat -> Nd -> Option (List Nat)) (rest : Nat -> Option (List Nat))
 (hrest : ∀ j (h : j < l.length),rest j = match R j (l.getD j dNd) with | some q => some (j :: q) | none => rest (j + 1)) (hend : rest l.length = none)
 (hv : ∀ j (h : j < l.length) w1 g1 B cB,SI s w1 (path ++ [j]) g1 -> FrS s gr w w1 g1 -> NAt (fun b _ => b < s) w1 (l.getD j dNd) B cB ->
  Calls Tryz.prog g (first.push (.agg #[.int .i64 (l.getD j dNd).k,.string (l.getD j dNd).t,.string (l.getD j dNd).v,.slice B (l.getD j dNd).kids.length cB]) ++ cap) w1 (VPost s (path ++ [j]) g1 w1 (R j (l.getD j dNd)))) :
 Calls Tryz.prog 84 #[.pointer (some ⟨s,0,none⟩),.agg #[.int .i64 k,.string t,.string v,.slice A l.length c],.func (.func g) first cap] w (VPost s path gr w (rest 0)):=by
 obtain ⟨hlc,hcm,_⟩:=(NAt.def_ _ _ _).1 hA
 simp only [Nd.kids] at hlc
 have hcm2 : c <= 9223372036854775807:=by simpa [maxLen] using hcm
 have bX:=Bes.new hi 24 #[.int .i64 k,.string t,.string v,.slice A l.length c]
 have alk:=al_nd w #[.int .i64 k,.string t,.string v,.slice A l.length c]
 obtain ⟨W0,hW0⟩ : ∃ W0,w.alloc (.cells #[.int .i64 k,.string t,.string v,.slice A l.length c] 24) = W0:=⟨_,rfl⟩
 rw [hW0] at bX alk
 have HI:=Lib.hid (hi.below alk)
 have HF : Hid (FrS s gr w W0 gr):=Lib.hid (FrS.of_below alk)
 have HA:=Lib.hid hA
 have HV:=Lib.hid hv
 have HR:=Lib.hid hrest
 have HE:=Lib.hid hend
 have HI0:=Lib.hid hi
 have x3 : W0.cell? ⟨w.heap.size,3,none⟩ = some (.slice A l.length c):=bX.1.cell 3
 have HFIN : Hid (∀ r,r = rest 0 -> r = rest 0):=Lib.hid fun r h => h
 obtain ⟨RR,hRR⟩ : ∃ RR,rest 0 = RR:=⟨_,rfl⟩
 rw [hRR]
 have HRR:=Lib.hid hRR
 clear hi hA hv hrest hend bX alk hRR HFIN
 go_enter Tryz.func84,Tryz.ntmps84
 go_wp2
 clear hW0 x3
 go_loopw [11] (fun i wr => ∃ (j : Nat) (g1 : Option Nat),j <= l.length /\ i = .int .i64 (j : Int) /\ Hid (SI s wr path g1) /\ Hid (FrS s gr w wr g1) /\ Hid (rest j = RR)) (fun i _ => l.length - (intOf i).toNat)
 case atStart => exact ⟨0,gr,Nat.zero_le _,rfl,HI,HF,HRR⟩
 case round =>
  obtain ⟨j,g1,hj,rfl,HI1,HF1,HRJ⟩:=hrel
  have hlow:=HF1.out.low HI0.out
  by_cases hlt : j < l.length
  case pos =>
   have hA':=HA.out.low (w':=wr) (fun q hq => hlow.block q hq)
   obtain ⟨_,_,hkids⟩:=(NAt.def_ _ _ _).1 hA'
   simp only [Nd.kids] at hkids
   obtain ⟨b,o,rfl,hbo,hkid⟩:=hkids (by omega)
   have hk1:=hkid j hlt
   rw [<- getDn hlt] at hk1
   obtain ⟨B,cB,q0,q1,q2,q3,hn1⟩:=hk1
   have hjc : j < c:=by omega
   have HVJ:=Lib.hid (HV.out j hlt)
   have HRN:=Lib.hid ((HR.out j hlt).symm.trans HRJ.out)
   clear hkid hkids hA' HV HR HRJ HE HI HF
   generalize l.getD j dNd = kd at *
   have bK:=Bes.new HI1.out 24 #[.int .i64 kd.k,.string kd.t,.string kd.v,.slice B kd.kids.length cB]
   have al1:=al_nd wr #[.int .i64 kd.k,.string kd.t,.string kd.v,.slice B kd.kids.length cB]
   obtain ⟨W1,hW1⟩ : ∃ W1,wr.alloc (.cells #[.int .i64 kd.k,.string kd.t,.string kd.v,.slice B kd.kids.length cB] 24) = W1:=⟨_,rfl⟩
   rw [hW1] at bK al1
   obtain ⟨v1,hb1,ho1,hg1⟩:=HI1.out.below al1
   have c0 : W1.cell? ⟨s,0,none⟩ = some v1:=hb1.cell 0
   have hso : some s ≠ v1.ownBlock:=ho1.not_own (Nat.lt_succ_self s)
   have hsb : s + 1 <= W1.heap.size:=hb1.lt
   have hF1 : FrS s gr w W1 g1:=HF1.out.trans (FrS.of_below al1)
   have HNW:=Lib.hid (hn1.below al1)
   obtain ⟨bk,hbk⟩ : ∃ bk,wr.heap.size = bk:=⟨_,rfl⟩
   rw [hbk] at bK
   clear al1 hn1
   go_wp2_with (first
    | (at_builtin; refine wp_app1 rfl _ _ 27 rfl (s + 1) 3 (.int .i64 0) 8 Tryz.underlying27 Tryz.info3 rfl v1 (pV path) (.int .i64 (j : Int)) rfl ho1 rfl 1 rfl (by rw [pV_len]; unfold maxLen; omega) (by rw [pV_len]; omega) hsb ?_; intro v2 w2 ho2 hgr2 how2; obtain ⟨A2,c2,rfl⟩:=ho2.shapeP (n:=path.length + 1) (by simp [pV]); have hb2:=hb1.grown hgr2 hso; have d0 : w2.cell? ⟨s,0,none⟩ = some v1:=hb2.cell 0; have f0:=hb2.frozen 0; have hlt2:=hb2.lt; have bK2:=bK.1.grown hgr2 (by rw [hg1]; exact bK.2.2); have bK3:=bK2.far (p:=⟨s,0,none⟩) bK.2.1 (.slice A2 (path.length + 1) c2); obtain ⟨z0,z1,z2,z3⟩:=nbox bK3))
   have hI3 : SI s (w2.setCell ⟨s,0,none⟩ (.slice A2 (path.length + 1) c2)) (path ++ [j]) (Value.slice A2 (path.length + 1) c2).ownBlock:=⟨_,hb2.set_ 0 _,by rw [pV_snoc]; exact ORow.set_far ho2 (Nat.lt_succ_self s) _,rfl⟩
   have hF3 : FrS s g1 W1 (w2.setCell ⟨s,0,none⟩ (.slice A2 (path.length + 1) c2)) (Value.slice A2 (path.length + 1) c2).ownBlock:=by
    refine ⟨hgr2.os,hgr2.tape,hgr2.output,by simpa [World.setCell] using hgr2.size,fun i hi hs hg => (Below.heap_setCell w2 ⟨s,0,none⟩ _ i hs).trans (hgr2.block i hi (by rw [hg1]; exact hg)),?_⟩
    rcases how2 with h | h
    ·exact .inl (h.trans hg1)
    ·exact .inr fun q hq => by rw [h] at hq; injection hq with hq; omega
   have hFF:=hF1.trans hF3
   have hl3:=hFF.low HI0.out
   have hC:=HVJ.out _ _ B cB hI3 hFF (HNW.out.low (fun q hq => (hF3.low ⟨v1,hb1,ho1,hg1⟩).block q hq))
   refine hC.mono ?_
   have HFF:=Lib.hid hFF
   have HL3:=Lib.hid hl3
   clear hC hI3 hF3 hFF hl3 z0 z1 z2 z3 bK bK2 bK3 d0 f0 hlt2 hb2 hgr2 how2 ho2 c0 hb1 ho1 hg1 hso hsb hF1 HNW HVJ q0 q1 q2 q3 hlow HI1 HF1 hW1
   rintro e w5 (⟨hr,rfl,g5,hI5,hF5⟩ | ⟨q,v5,hr,rfl,ho5,hb5⟩)
   case inr =>
    rw [hr] at HRN
    exact ⟨rfl,.inr ⟨j :: q,v5,HRN.out.symm,rfl,by simpa [List.append_assoc] using ho5,HL3.out.trans hb5⟩⟩
   case inl =>
    rw [hr] at HRN
    have HRN2 : Hid (rest (j + 1) = RR):=Lib.hid HRN.out
    have HF5:=Lib.hid (HFF.out.trans hF5)
    clear HRN HFF HL3 hF5
    obtain ⟨v5,hb5,ho5,hg5⟩:=hI5
    rw [pV_snoc] at ho5
    obtain ⟨A5,c5,rfl⟩:=ho5.shapeP (n:=path.length + 1) (by simp [pV])
    obtain ⟨q5,hq5,hle5⟩ : ∃ q5,A5 = some ⟨q5,0,none⟩ /\ path.length + 1 <= c5:=by
     rcases ho5.form with ⟨hv,hx⟩ | ⟨q5,cap,hv,_,_,hle,_⟩
     ·simp at hx
     ·injection hv with h1 h2 h3
      subst h3
      refine ⟨q5,h1,?_⟩
      simpa [pV] using hle
    subst hq5
    have e0 : w5.cell? ⟨s,0,none⟩ = some (.slice (some ⟨q5,0,none⟩) (path.length + 1) c5):=hb5.cell 0
    have fe:=hb5.frozen 0
    have hlt5:=hb5.lt
    have hcut:=ho5.cut
    rw [pV_len] at hcut
    have hI6 : SI s (w5.setCell ⟨s,0,none⟩ (.slice (some ⟨q5,0,none⟩) path.length c5)) path g5:=⟨_,hb5.set_ 0 _,ORow.set_far hcut (Nat.lt_succ_self s) _,hg5⟩
    have hF6 : FrS s g5 w5 (w5.setCell ⟨s,0,none⟩ (.slice (some ⟨q5,0,none⟩) path.length c5)) g5:=⟨rfl,rfl,rfl,by simp [World.setCell],fun i _ hs _ => Below.heap_setCell w5 ⟨s,0,none⟩ _ i hs,.inl rfl⟩
    have HI6:=Lib.hid hI6
    have HF6:=Lib.hid (HF5.out.trans hF6)
    clear hI6 hF6 hcut hb5 ho5 hg5
    go_wp2
    go_region
    go_wp2
    go_roundw
    case rel => exact ⟨j + 1,g5,by omega,by go_num,Lib.hid (HI6.out.below (below_drew (Below.refl _ _))),Lib.hid (HF6.out.trans (FrS.of_below (below_drew (Below.refl _ _)))),HRN2⟩
    case measure => first | (simp [intOf]; done) | (simp [intOf]; omega)
  case neg =>
   obtain rfl : j = l.length:=by omega
   have HN : Hid (RR = none):=Lib.hid (HRJ.out.symm.trans HE.out)
   clear HRJ HE HI HF HV HR
   go_wp2
   go_end0
   exact .inl ⟨HN.out,rfl,g1,HI1.out,HF1.out⟩
theorem fcatch_fail (r : Nat) (x v : Value) (y : Int) (n c : Nat) (A : Option Addr) (hv : v = .slice A n c) (w : World) (hB : Blk w r 27 #[x]) (hB2 : Blk w (r + 1) 28 #[.int .i64 y]) :
 CallsD Tryz.prog 46 #[.pointer (some ⟨r,0,none⟩),.pointer (some ⟨r + 1,0,none⟩)] (.panicking (foundP v)) w fun e u' w' =>
  e = .returned (.tuple #[]) /\ u' = .panicking [{ v:=foundV v,recovered:=true }] /\ w' = ((w.setCell ⟨r,0,none⟩ v).setCell ⟨r + 1,0,none⟩ (.int .i64 20)).alloc (.cells #[v] 89):=by
 subst hv
 have hB1:=hB.alloc (.cells #[.slice A n c] 89)
 have c0 : (w.alloc (.cells #[.slice A n c] 89)).cell? ⟨r,0,none⟩ = some x:=hB1.cell 0
 have f0:=hB1.frozen 0
 have c5 : w.cell? ⟨r,0,none⟩ = some x:=hB.cell 0
 have f5:=hB.frozen 0
 have c4 : w.cell? ⟨r + 1,0,none⟩ = some (.int .i64 y):=hB2.cell 0
 have f4:=hB2.frozen 0
 have hlt:=hB.lt
 have hlt2:=hB2.lt
 clear hB hB1 hB2
 refine callsD_of_wpS Tryz.func46 rfl fun c₀ cs hu => ?_
 apply wpS_seq
 apply wpS_region
 simp [wpOpsS,go_sem,recoverD,hu,foundP,Tryz.ntmps46,Exit.thenS]
 refine wpS_of_wp ?_
 unfold foundV
 have hta : ∀ w,(Instr.typeAssert (.iface 89 (.agg #[.slice A n c])) 20 89 true).run Tryz.prog w = .ok (.tuple #[.agg #[.slice A n c],.bool true]) w:=fun w => by rfl
 rw [show (Array.replicate 11 undef : Array Value) = #[undef,undef,undef,undef,undef,undef,undef,undef,undef,undef,undef] from rfl]
 simp only [List.setIfInBounds_toArray,List.set_cons_zero,List.set_cons_succ,List.append_toArray,List.cons_append,List.nil_append]
 go_wp2
 exact ⟨rfl,_,rfl,.tuple #[],by simp [results,Tryz.results46,go_sem],rfl,rfl,rfl⟩
theorem fcatch_none (r : Nat) (w : World) :
 CallsD Tryz.prog 46 #[.pointer (some ⟨r,0,none⟩),.pointer (some ⟨r + 1,0,none⟩)] .returning w fun e u' w' => e = .returned (.tuple #[]) /\ u' = .returning /\ w' = w:=by
 refine callsD_of_wpS Tryz.func46 rfl fun c₀ cs hu => ?_
 apply wpS_seq
 apply wpS_region
 simp [wpOpsS,go_sem,recoverD,hu,foundP,Tryz.ntmps46,Exit.thenS]
 refine wpS_of_wp ?_
 rw [show (Array.replicate 11 undef : Array Value) = #[undef,undef,undef,undef,undef,undef,undef,undef,undef,undef,undef] from rfl]
 simp only [List.setIfInBounds_toArray,List.set_cons_zero,List.set_cons_succ,List.append_toArray,List.cons_append,List.nil_append]
 go_wp2
 cases c₀
 simp only at hu
 subst hu
 exact ⟨rfl,_,rfl,.tuple #[],by simp [results,Tryz.results46,go_sem],rfl,rfl,rfl⟩
def iP (p : List Nat) : List Int:=p.map fun (i : Nat) => (i : Int)
theorem pV_iP (p : List Nat) : pV p = (iP p).map iV:=by simp [pV,iP,iV]
def FindPost (w : World) (r : Option (List Nat)) (e : Ending) (w' : World) : Prop :=
 ∃ v,e = .returned (.tuple #[v,.int .i64 (if r.isSome = true then 20 else 0)]) /\ IRead w' v (iP (r.getD [])) /\ Below w.heap.size w w'
def findW (w : World) : World:=((w.alloc (.cells #[.slice none 0 0] 27)).alloc (.cells #[.int .i64 0] 28)).alloc (.cells #[.slice none 0 0] 90)
theorem findW_below (w : World) : Below w.heap.size w (findW w):=(((Below.refl _ _).alloc (Nat.le_refl _) _).alloc (by simp) _).alloc (by simp; omega) _
theorem findW_si (w : World) : SI (w.heap.size + 2) (findW w) [] none:=by
 refine ⟨.slice none 0 0,?_,ORow.nil _ _ _,rfl⟩
 have:=Blk.new ((w.alloc (.cells #[.slice none 0 0] 27)).alloc (.cells #[.int .i64 0] 28)) 90 #[.slice none 0 0]
 rw [World.size_alloc,World.size_alloc] at this
 exact this
set_option maxHeartbeats 4000000 in
theorem find_any (w : World) (g : FuncId) (first cap : Array Value) (hef : ∀ args w,(callFunc g args).run Tryz.prog w = .ok (.enter g args) w) (r : Option (List Nat))
 (h : Calls Tryz.prog g (first.push (.pointer (some ⟨w.heap.size + 2,0,none⟩)) ++ cap) (findW w) (VPost (w.heap.size + 2) [] none (findW w) r)) :
 Calls Tryz.prog 27 #[.func (.func g) first cap] w (FindPost w r):=by
 have hmf : ∀ (fn : Fn) (first cap : Array Value) (w : World),(Instr.makeFunc fn first cap).run Tryz.prog w = .ok (.func fn first cap) w:=fun _ _ _ _ => rfl
 have b1 : Blk (findW w) w.heap.size 27 #[.slice none 0 0]:=((Blk.new w _ _).alloc _).alloc _
 have b2 : Blk (findW w) (w.heap.size + 1) 28 #[.int .i64 0]:=by
  have:=Blk.new (w.alloc (.cells #[.slice none 0 0] 27)) 28 #[.int .i64 0]
  rw [World.size_alloc] at this
  exact this.alloc _
 have hbw:=findW_below w
 have B1:=Lib.hid b1
 have B2:=Lib.hid b2
 have HW:=Lib.hid hbw
 unfold FindPost
 clear b1 b2 hbw
 go_enter_defers Tryz.func27,Tryz.ntmps27
 go_wp2
 refine h.mono ?_
 clear h
 rintro e w1 (⟨rfl,rfl,g',hI,hF⟩ | ⟨q,v,rfl,rfl,ho,hb⟩)
 case inl =>
  have hlow:=hF.low (findW_si w)
  have c1:=B1.out.below hlow (by omega)
  have c2:=B2.out.below hlow (by omega)
  have x1 : w1.cell? ⟨w.heap.size,0,none⟩ = some (.slice none 0 0):=c1.cell 0
  have x2 : w1.cell? ⟨w.heap.size + 1,0,none⟩ = some (.int .i64 0):=c2.cell 0
  have f1:=c1.frozen 0
  have f2:=c2.frozen 0
  have l1:=c1.lt
  have l2:=c2.lt
  have c3:=c1.set_ 0 (.slice none 0 0)
  have c4:=(c2.far (p:=⟨w.heap.size,0,none⟩) (by simp) (.slice none 0 0)).set_ 0 (.int .i64 0)
  have c5:=c3.far (p:=⟨w.heap.size + 1,0,none⟩) (by simp) (.int .i64 0)
  have r1 : ((w1.setCell ⟨w.heap.size,0,none⟩ (.slice none 0 0)).setCell ⟨w.heap.size + 1,0,none⟩ (.int .i64 0)).cell? ⟨w.heap.size,0,none⟩ = some (.slice none 0 0):=c5.cell 0
  have r2 : ((w1.setCell ⟨w.heap.size,0,none⟩ (.slice none 0 0)).setCell ⟨w.heap.size + 1,0,none⟩ (.int .i64 0)).cell? ⟨w.heap.size + 1,0,none⟩ = some (.int .i64 0):=c4.cell 0
  have HB:=Lib.hid (((HW.out.trans (hlow.mono (by omega))).setCell (p:=⟨w.heap.size,0,none⟩) (Nat.le_refl _) (.slice none 0 0)).setCell (p:=⟨w.heap.size + 1,0,none⟩) (by simp) (.int .i64 0))
  clear c1 c2 c3 c4 c5 hlow hI hF
  go_wp2
  refine leaves_cons (f:=46) (args:=#[.pointer (some ⟨w.heap.size,0,none⟩),.pointer (some ⟨w.heap.size + 1,0,none⟩)]) (by simp) (by simp [go_sem]) ?_
  refine (fcatch_none _ _).mono ?_
  rintro e u' w'' ⟨rfl,rfl,rfl⟩
  simp [Leaves,settle,results,Tryz.results27,go_sem,r1,r2]
  exact ⟨IRead.nil _ _,HB.out⟩
 case inr =>
  have c1:=B1.out.below hb (by omega)
  have c2:=B2.out.below hb (by omega)
  obtain ⟨A,n,c,hv⟩ : ∃ A n c,v = .slice A n c:=by obtain ⟨A,c,hv⟩:=ho.shape; exact ⟨A,_,c,hv⟩
  refine leaves_cons (f:=46) (args:=#[.pointer (some ⟨w.heap.size,0,none⟩),.pointer (some ⟨w.heap.size + 1,0,none⟩)]) (by simp) (by simp [go_sem]) ?_
  refine (fcatch_fail w.heap.size _ v _ n c A hv w1 c1 c2).mono ?_
  rintro e u' w'' ⟨rfl,rfl,rfl⟩
  have c3:=((c1.set_ 0 v).far (p:=⟨w.heap.size + 1,0,none⟩) (by simp) (.int .i64 20)).alloc (.cells #[v] 89)
  have c4:=((c2.far (p:=⟨w.heap.size,0,none⟩) (by simp) v).set_ 0 (.int .i64 20)).alloc (.cells #[v] 89)
  have r1 : ((((w1.setCell ⟨w.heap.size,0,none⟩ v).setCell ⟨w.heap.size + 1,0,none⟩ (.int .i64 20))).alloc (.cells #[v] 89)).cell? ⟨w.heap.size,0,none⟩ = some v:=c3.cell 0
  have r2 : ((((w1.setCell ⟨w.heap.size,0,none⟩ v).setCell ⟨w.heap.size + 1,0,none⟩ (.int .i64 20))).alloc (.cells #[v] 89)).cell? ⟨w.heap.size + 1,0,none⟩ = some (.int .i64 20):=c4.cell 0
  have hr : IRead ((((w1.setCell ⟨w.heap.size,0,none⟩ v).setCell ⟨w.heap.size + 1,0,none⟩ (.int .i64 20))).alloc (.cells #[v] 89)) v (iP q):=by
   have h1:=(ORow.set_far (ORow.set_far ho (p:=⟨w.heap.size,0,none⟩) (by simp; omega) v) (p:=⟨w.heap.size + 1,0,none⟩) (by simp) (.int .i64 20)).alloc (.cells #[v] 89)
   rw [List.nil_append,pV_iP] at h1
   exact IRead.of_row h1
  have hB : Below w.heap.size w ((((w1.setCell ⟨w.heap.size,0,none⟩ v).setCell ⟨w.heap.size + 1,0,none⟩ (.int .i64 20))).alloc (.cells #[v] 89)):=by
   have h2:=((HW.out.trans (hb.mono (by omega))).setCell (p:=⟨w.heap.size,0,none⟩) (Nat.le_refl _) v).setCell (p:=⟨w.heap.size + 1,0,none⟩) (by simp) (.int .i64 20)
   exact h2.alloc h2.size _
  simp [Leaves,settle,results,Tryz.results27,go_sem,r1,r2]
  exact ⟨hr,hB⟩
theorem NAt.upp {n : Nd} {A : Option Addr} {c : Nat} {w w' : World} (h : NAt (fun b _ => b < w.heap.size) w n A c) (hb : Below w.heap.size w w') : NAt (fun b _ => b < w'.heap.size) w' n A c :=
 (h.below hb).weaken fun _ _ hlt => Nat.lt_of_lt_of_le hlt hb.size
def RootAt (x : Int) (n : Nd) (r : Option (List Nat)) : Prop:=∀ (s : Nat) (path : List Nat) (g : Option Nat) (A : Option Addr) (c : Nat) (w : World),SI s w path g -> NAt (fun b _ => b < s) w n A c -> path.length + sizeN n <= 100000 ->
    Calls Tryz.prog 29 #[.pointer (some ⟨s,0,none⟩),.int .i64 x,.agg #[.int .i64 n.k,.string n.t,.string n.v,.slice A n.kids.length c]] w (VPost s path g w r)
theorem ofc_any (x : Int) (n : Nd) (r : Option (List Nat)) (hr : RootAt x n r) (s : Nat) (path : List Nat) (g : Option Nat) (A : Option Addr) (c : Nat) (w : World) (hi : SI s w path g) (hA : NAt (fun b _ => b < s) w n A c) (hl : path.length + sizeN n <= 100000)
 (b1 b2 : Nat) (h1 : Blk w b1 3 #[.int .i64 x]) (h2 : Blk w b2 24 #[.int .i64 n.k,.string n.t,.string n.v,.slice A n.kids.length c]) :
 Calls Tryz.prog 28 #[.pointer (some ⟨s,0,none⟩),.pointer (some ⟨b1,0,none⟩),.pointer (some ⟨b2,0,none⟩)] w (VPost s path g w r):=by
 have hR:=hr s path g A c w hi hA hl
 have c0 : w.cell? ⟨b1,0,none⟩ = some (.int .i64 x):=h1.cell 0
 obtain ⟨z0,z1,z2,z3⟩:=nbox h2
 clear hi hA hl h1 h2 hr
 go_enter Tryz.func28,Tryz.ntmps28
 go_wp2_with fail
 refine hR.mono ?_
 rintro e w1 (⟨hr,rfl,h⟩ | ⟨q,v,hr,rfl,h⟩)
 ·go_wp2
  go_end0
  exact .inl ⟨hr,rfl,h⟩
 ·exact ⟨rfl,.inr ⟨q,v,hr,rfl,h⟩⟩
def OfPost (x : Int) (n : Nd) (r : Option (List Nat)) (w : World) (e : Ending) (w' : World) : Prop :=
 ∃ v,e = .returned (.tuple #[v,.int .i64 (if mayN n = 0 then (if r.isSome = true then 20 else 0) else mayN n)]) /\ IRead w' v (if mayN n = 0 then iP (r.getD []) else []) /\ Below w.heap.size w w'
set_option maxHeartbeats 4000000 in
theorem of_gen (x : Int) (hx : 1 <= x /\ x <= 6) (n : Nd) (r : Option (List Nat)) (hr : mayN n = 0 -> RootAt x n r) (A : Option Addr) (c : Nat) (w : World) (hw : Nm.StdW w) (hA : NAt (fun b _ => b < w.heap.size) w n A c) (ho : okT n) (hz : sizeN n <= 90000) :
 Calls Tryz.prog 11 #[.int .i64 x,.agg #[.int .i64 n.k,.string n.t,.string n.v,.slice A n.kids.length c]] w (OfPost x n r w):=by
 have hb : Below w.heap.size w ((w.alloc (.cells #[.int .i64 x] 3)).alloc (.cells #[.int .i64 n.k,.string n.t,.string n.v,.slice A n.kids.length c] 24)):=((Below.refl _ _).alloc (Nat.le_refl _) _).alloc (by simp) _
 have b1 : Blk ((w.alloc (.cells #[.int .i64 x] 3)).alloc (.cells #[.int .i64 n.k,.string n.t,.string n.v,.slice A n.kids.length c] 24)) w.heap.size 3 #[.int .i64 x]:=(Blk.new w _ _).alloc _
 have b2 : Blk ((w.alloc (.cells #[.int .i64 x] 3)).alloc (.cells #[.int .i64 n.k,.string n.t,.string n.v,.slice A n.kids.length c] 24)) (w.heap.size + 1) 24 #[.int .i64 n.k,.string n.t,.string n.v,.slice A n.kids.length c]:=by
  have:=Blk.new (w.alloc (.cells #[.int .i64 x] 3)) 24 #[.int .i64 n.k,.string n.t,.string n.v,.slice A n.kids.length c]
  rw [World.size_alloc] at this
  exact this
 obtain ⟨W0,hW0⟩ : ∃ W0,(w.alloc (.cells #[.int .i64 x] 3)).alloc (.cells #[.int .i64 n.k,.string n.t,.string n.v,.slice A n.kids.length c] 24) = W0:=⟨_,rfl⟩
 rw [hW0] at hb b1 b2
 have hA0:=hA.upp hb
 have hM:=tmay_any n A c W0 n.k n.t n.v n.kids.length ⟨rfl,rfl,rfl,rfl⟩ ho hA0 (hw.below hb)
 have x0 : W0.cell? ⟨w.heap.size,0,none⟩ = some (.int .i64 x):=b1.cell 0
 obtain ⟨z0,z1,z2,z3⟩:=nbox b2
 have hx1 : ¬ x < 1:=by omega
 have hx6 : ¬ 6 < x:=by omega
 have B1:=Lib.hid b1
 have B2:=Lib.hid b2
 have HB:=Lib.hid hb
 have HA0:=Lib.hid hA0
 unfold OfPost
 obtain ⟨E,hE⟩ : ∃ E,mayN n = E:=⟨_,rfl⟩
 rw [hE] at hM hr ⊢
 clear b1 b2 hb hA hA0 hx ho
 by_cases h0 : E = 0
 case neg =>
  have z5:=ibeq h0
  have z6:=ibne h0
  rw [if_neg h0,if_neg h0]
  clear hr h0
  go_enter Tryz.func11,Tryz.ntmps11
  go_wp2_with fail
  refine hM.mono ?_
  rintro e w1 ⟨rfl,hb1⟩
  have HB1:=Lib.hid (HB.out.trans (hb1.mono HB.out.size))
  clear hb1 hM hW0
  go_wp2
  go_ret2
  exact ⟨_,rfl,IRead.nil _ _,HB1.out⟩
 case pos =>
  subst h0
  have HRT:=Lib.hid (hr rfl)
  rw [if_pos rfl,if_pos rfl]
  obtain ⟨ER,hER⟩ : ∃ ER : Int,(if r.isSome = true then 20 else 0) = ER:=⟨_,rfl⟩
  obtain ⟨RP,hRP⟩ : ∃ RP,iP (r.getD []) = RP:=⟨_,rfl⟩
  rw [hER,hRP]
  have HER:=Lib.hid hER
  have HRP:=Lib.hid hRP
  clear hr hER hRP
  go_enter Tryz.func11,Tryz.ntmps11
  go_wp2_with fail
  refine hM.mono ?_
  rintro e w1 ⟨rfl,hb1⟩
  have hlo:=(findW_below w1)
  have hA1:=(HA0.out.upp hb1).below hlo
  have hC:=ofc_any x n r HRT.out (w1.heap.size + 2) [] none A c (findW w1) (findW_si w1) (hA1.weaken fun b _ h => by omega) (by simp; omega) w.heap.size (w.heap.size + 1) ((B1.out.below hb1 B1.out.lt).below hlo (by have:=B1.out.lt; have:=hb1.size; omega)) ((B2.out.below hb1 B2.out.lt).below hlo (by have:=B2.out.lt; have:=hb1.size; omega))
  have hF:=find_any w1 28 #[] #[.pointer (some ⟨w.heap.size,0,none⟩),.pointer (some ⟨w.heap.size + 1,0,none⟩)] (fun _ _ => rfl) r (by simpa using hC)
  have HB1:=Lib.hid (HB.out.trans (hb1.mono HB.out.size))
  unfold FindPost at hF
  rw [HER.out,HRP.out] at hF
  clear hb1 hM hW0 hC hA1 hlo HRT HER HRP
  go_wp2_with fail
  refine hF.mono ?_
  rintro e w2 ⟨v,rfl,hI,hb2⟩
  have HB2:=Lib.hid (HB1.out.trans (hb2.mono HB1.out.size))
  have HI:=Lib.hid hI
  clear hI hb2 hF
  go_wp2
  go_ret2
  exact ⟨_,rfl,HI.out,HB2.out⟩
end Go.Proofs.YtbnppjmmlfncmaaGreatDoor
