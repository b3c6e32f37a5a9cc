/-
  stream: what a machine has to be, for a Stream to drive it: how it lies, what its calls do and leave.
  stream: a byte, for any machine.
  stream: the bytes of a text, for any machine.
  stream: the end of a text, for any machine.
-/
import Derived.Test.YtbnppjmmlfncmaaGreatDoorIrA35
import Derived.Test.YtbnppjmmlfncmaaGreatDoorIrA34
import Derived.Test.YtbnppjmmlfncmaaGreatDoorIrA06
import Derived.Test.YtbnppjmmlfncmaaGreatDoorIrA04
set_option maxRecDepth 100000
set_option linter.unusedSimpArgs false
set_option linter.unusedVariables false
set_option linter.unusedSectionVars false
namespace Go.Proofs.YtbnppjmmlfncmaaGreatDoor
open Go.RowKit Go.Maps
variable [Fo]
def SW (base : Nat) (w : World) : Prop:=∃ w0,Nm.StdW w0 /\ w0.heap.size <= base /\ Below w0.heap.size w0 w
theorem SW.std {base : Nat} {w : World} (h : SW base w) : Nm.StdW w:=by obtain ⟨w0,h1,_,h3⟩:=h; exact h1.below h3
theorem SW.below {base : Nat} {w w' : World} (h : SW base w) (hb : Below base w w') : SW base w':=by
 obtain ⟨w0,h1,h2,h3⟩:=h
 exact ⟨w0,h1,h2,h3.trans (hb.mono h2)⟩
theorem SW.tch {base : Nat} {w w' : World} {p : Obj -> Prop} (h : SW base w) (ht : Tch base p w w') (hb : base <= w.heap.size) : SW base w':=h.below (ht.below hb)
def SN (n : Prop) (base : Nat) (w : World) : Prop:=n -> SW base w
theorem SN.of {n : Prop} {base : Nat} {w : World} (h : SW base w) : SN n base w:=fun _ => h
theorem SN.below {n : Prop} {base : Nat} {w w' : World} (h : SN n base w) (hb : Below base w w') : SN n base w':=fun e => (h e).below hb
theorem SN.tch {n : Prop} {base : Nat} {w w' : World} {p : Obj -> Prop} (h : SN n base w) (ht : Tch base p w w') (hb : base <= w.heap.size) : SN n base w':=fun e => (h e).tch ht hb
def ssObj : Obj -> Prop
 | .cells _ t _ => t = 111 \/ t = 160
 | _ => False
structure FrG (obj : Obj -> Prop) (base B : Nat) (w w' : World) : Prop where
 low : Below base w w'
 keep : ∀ k o,w.heap[k]? = some o -> k < B -> ¬ obj o -> w'.heap[k]? = some o
 fo : ∀ k o,w.heap[k]? = some o -> Fo.F k -> w'.heap[k]? = some o
theorem FrG.refl (obj : Obj -> Prop) (base B : Nat) (w : World) : FrG obj base B w w:=⟨Below.refl _ _,fun k o h _ _ => h,fun k o h _ => h⟩
section
variable {obj : Obj -> Prop} {base B : Nat} {w w' w'' : World}
theorem FrG.trans (h : FrG obj base B w w') (k : FrG obj base B w' w'') : FrG obj base B w w'':=⟨h.low.trans k.low,fun i o ho hi hn => k.keep i o (h.keep i o ho hi hn) hi hn,fun i o ho hf => k.fo i o (h.fo i o ho hf) hf⟩
theorem FrG.of_tch (h : Tch base obj w w') (hb : base <= w.heap.size) : FrG obj base B w w':=⟨h.below hb,fun k o ho _ hn => h.block k o ho (.inr (.inl hn)),fun k o ho hf => h.block k o ho (.inr (.inr hf))⟩
end
structure LowF (base : Nat) (w w' : World) : Prop where
 low : Below base w w'
 fo : ∀ k o,w.heap[k]? = some o -> Fo.F k -> w'.heap[k]? = some o
section
variable {obj : Obj -> Prop} {base B : Nat} {w w' w'' : World}
theorem LowF.refl (base : Nat) (w : World) : LowF base w w:=⟨Below.refl _ _,fun k o h _ => h⟩
theorem LowF.trans (h : LowF base w w') (k : LowF base w' w'') : LowF base w w'':=⟨h.low.trans k.low,fun i o ho hf => k.fo i o (h.fo i o ho hf) hf⟩
theorem LowF.of_tch {p : Obj -> Prop} (h : Tch base p w w') (hb : base <= w.heap.size) : LowF base w w':=⟨h.below hb,fun k o ho hf => h.block k o ho (.inr (.inr hf))⟩
theorem LowF.of_below (h : Below w.heap.size w w') (hb : base <= w.heap.size) : LowF base w w':=⟨h.mono hb,fun k o ho _ => (h.block k (Array.getElem?_eq_some_iff.1 ho).1).trans ho⟩
theorem LowF.drew (base : Nat) (w : World) : LowF base w w.drew:=⟨below_drew (Below.refl _ _),fun k o h _ => h⟩
theorem FrG.lowF (h : FrG obj base B w w') : LowF base w w':=⟨h.low,h.fo⟩
end
theorem row_up {w w' : World} {b : Nat} {e : TypeId} {size n : Nat} {v : Value} {xs : List Value} (h : w.ownsRow b e size v n xs) (hk : ∀ k o,b <= k -> w.heap[k]? = some o -> w'.heap[k]? = some o) : w'.ownsRow b e size v n xs:=by
 refine ⟨h.1,?_⟩
 rcases h.2 with hn | ⟨g,cap,cur,hv,hg,hh,r⟩
 ·exact .inl hn
 ·exact .inr ⟨g,cap,cur,hv,hg,hk _ _ hg hh,r⟩
theorem OAt.tch {w w' : World} {base o ck : Nat} {st : List Pt} {l : List Ev} {p : Obj -> Prop} (h : OAt w base o ck st l) (ht : Tch base p w w') (h1 : ∀ cs t fr,t = 127 \/ t = 124 \/ t = 107 \/ t = 67 -> ¬ p (.cells cs t fr)) (h2 : ∀ es c,¬ p (.map es c)) : OAt w' base o ck st l:=by
 obtain ⟨⟨lv,hB,hR,hf⟩,hC,hb,ho⟩:=h
 exact ⟨⟨lv,hB.tch ht (.inr (h1 _ _ _ (.inr (.inr (.inl rfl))))),hR.tch ht (fun _ _ => h1 _ _ _ (.inr (.inr (.inr rfl)))),hf⟩,hC.tch ht (fun cs t fr h => h1 cs t fr (by rcases h with h | h; exact .inl h; exact .inr (.inl h))) h2,hb,ho⟩
theorem OAt.of_ss {w w' : World} {base o ck : Nat} {st : List Pt} {l : List Ev} (h : OAt w base o ck st l) (ht : Tch base ssObj w w') : OAt w' base o ck st l :=
 h.tch ht (fun cs t fr h hc => by simp only [ssObj] at hc; rcases h with rfl | rfl | rfl | rfl <;> exact absurd hc (by decide)) (fun _ _ hc => hc)
structure Mach extends MachP where
 T : TypeId
 fs : FuncId
 fe : FuncId
 hms : ∀ (a : Addr) (w : World), (method 385 T (.pointer (some a)) "Step").run Tryz.prog w = .ok (fs, .pointer (some a)) w
 hme : ∀ (a : Addr) (w : World), (method 385 T (.pointer (some a)) "End").run Tryz.prog w = .ok (fe, .pointer (some a)) w
 efs : ∀ args w,(callFunc fs args).run Tryz.prog w = .ok (.enter fs args) w
 efe : ∀ args w,(callFunc fe args).run Tryz.prog w = .ok (.enter fe args) w
 num : Prop
 raw : World -> Nat -> Nat -> Prop
 At : World -> Nat -> Nat -> Nat -> Nat -> Nat -> σ -> Prop
 obj : Obj -> Prop
 nss : ∀ cs t fr,t = 111 \/ t = 160 -> ¬ obj (.cells cs t fr)
 raw_below : ∀ {w w' base m},raw w base m -> Below w.heap.size w w' -> raw w' base m
 raw_lim : ∀ {w base m},raw w base m -> Fo.lim <= w.heap.size
 start : ∀ {w0 w base b2 B m o ck},raw w0 base m -> base <= w0.heap.size -> Below w0.heap.size w0 w -> w0.heap.size <= b2 -> b2 <= w.heap.size -> OAt w b2 o ck [topP] [] -> At w base B m o ck x0
 out : ∀ {w base B m o ck x},At w base B m o ck x -> OAt w base o ck (st x) (l x)
 ss : ∀ {w w' base B m o ck x},At w base B m o ck x -> Tch base ssObj w w' -> (∀ k o,B <= k -> w.heap[k]? = some o -> w'.heap[k]? = some o) -> At w' base B m o ck x
 step_any : ∀ (w : World) (base B m o ck : Nat) (x : σ) (b : UInt8) (n : Nat),At w base B m o ck x -> Inv x n -> n <= 200000 -> B <= w.heap.size -> SN num base w -> base <= w.heap.size ->
  Calls Tryz.prog fs #[.pointer (some ⟨m,0,none⟩),.int .u8 (b.toNat : Int),.pointer (some ⟨o,0,none⟩)] w fun e w' => e = .returned (.int .i64 (ste x b)) /\ At w' base B m o ck (stp x b) /\ FrG obj base B w w'
 end_any : ∀ (w : World) (base B m o ck : Nat) (x : σ) (n : Nat),At w base B m o ck x -> Inv x n -> n <= 200000 -> SN num base w -> base <= w.heap.size ->
  Calls Tryz.prog fe #[.pointer (some ⟨m,0,none⟩),.pointer (some ⟨o,0,none⟩)] w fun e w' => e = .returned (.int .i64 (fne x)) /\ OAt w' base o ck (st (fin x)) (l (fin x)) /\ FrG obj base B w w'
end Go.Proofs.YtbnppjmmlfncmaaGreatDoor
namespace Go.Proofs.YtbnppjmmlfncmaaGreatDoor
open Go.RowKit Go.Maps
variable [Fo]
variable {M : Mach}
def sCells (T : TypeId) (m sc o : Nat) (e : Int) (rd : Nat) (cl en : Bool) : Array Value :=
 #[.iface T (.pointer (some ⟨m,0,none⟩)),.pointer (some ⟨sc,0,none⟩),.pointer (some ⟨o,0,none⟩),.int .i64 e,.int .i64 (rd : Int),.bool cl,.bool en]
structure Pl (base B s m sc o ck : Nat) (w : World) : Prop where
 sB : s < B
 cB : sc < B
 bs : base <= s
 bc : base <= sc
 hB : B <= w.heap.size
 hb : base <= w.heap.size
structure StA (w : World) (base B s m sc o ck : Nat) (x : Ss M.toMachP) (cl en : Bool) : Prop where
 blk : Blk w s 111 (sCells M.T m sc o x.e x.rd cl en)
 scan : ScanAt w sc x.sl x.slo x.shi
 d : M.At w base B m o ck x.b
 ns : ¬ Fo.F s /\ ¬ Fo.F sc
 p : Pl base B s m sc o ck w
theorem StA.set {w : World} {base B s m sc o ck : Nat} {x : Ss M.toMachP} {cl en : Bool} (h : StA w base B s m sc o ck x cl en) (i : Nat) (u : Value) (x' : Ss M.toMachP) (cl' en' : Bool) (hc : (sCells M.T m sc o x.e x.rd cl en).setIfInBounds i u = sCells M.T m sc o x'.e x'.rd cl' en')
 (hx : x'.b = x.b /\ x'.sl = x.sl /\ x'.slo = x.slo /\ x'.shi = x.shi) : StA (w.setCell ⟨s,i,none⟩ u) base B s m sc o ck x' cl' en':=by
 obtain ⟨h1,h2,h3,h4⟩:=hx
 have ht : Tch base ssObj w (w.setCell ⟨s,i,none⟩ u):=(Tch.refl _ _ _).set h.blk h.p.bs h.ns.1 (show ssObj (.cells _ _ _) from .inl rfl) i u
 have hne : sc ≠ s:=fun e => by
  have k1:=h.scan
  have k2:=h.blk
  unfold ScanAt Blk at k1
  unfold Blk at k2
  rw [e,k2] at k1
  injection k1 with k1
  injection k1 with _ k1
  exact absurd k1 (by decide)
 refine ⟨by rw [<- hc]; exact h.blk.set_ i u,?_,?_,h.ns,?_⟩
 ·rw [h2,h3,h4]; exact Blk.far h.scan (p:=⟨s,i,none⟩) hne u
 ·rw [h1]; exact M.ss h.d ht (fun k o hk ho => (Below.heap_setCell w ⟨s,i,none⟩ u k (by have:=h.p.sB; show k ≠ s; omega)).trans ho)
 ·have hs : (w.setCell ⟨s,i,none⟩ u).heap.size = w.heap.size:=by simp [World.setCell]
  exact ⟨h.p.sB,h.p.cB,h.p.bs,h.p.bc,by rw [hs]; exact h.p.hB,by rw [hs]; exact h.p.hb⟩
theorem StA.low {w : World} {base B s m sc o ck : Nat} {x : Ss M.toMachP} {cl en : Bool} (h : StA w base B s m sc o ck x cl en) (i : Nat) (u : Value) : LowF base w (w.setCell ⟨s,i,none⟩ u):=LowF.of_tch (p:=ssObj) ((Tch.refl _ _ _).set h.blk h.p.bs h.ns.1 (show ssObj (.cells _ _ _) from .inl rfl) i u) h.p.hb
set_option maxHeartbeats 8000000 in
theorem sstep_any (w : World) (base B s m sc o ck : Nat) (x : Ss M.toMachP) (cl en : Bool) (b : UInt8) (n : Nat) (h : StA w base B s m sc o ck x cl en) (he : x.e = 0) (hi : M.Inv x.b n) (hn : n <= 200000) (hr : x.rd <= 1000000) (hs0 : 0 <= x.sl /\ x.sl <= 3) (hw : SN M.num base w) :
 Calls Tryz.prog 102 #[.pointer (some ⟨s,0,none⟩),.int .u8 (b.toNat : Int)] w fun e w' => e = .returned (.tuple #[]) /\ StA w' base B s m sc o ck (feed1 x b) cl en /\ LowF base w w':=by
 have hb255 : (b.toNat : Int) <= 255:=by have:=b.toNat_lt; omega
 have hSc:=step_any w sc x.sl x.slo x.shi (b.toNat : Int) h.scan hs0.1 hs0.2 (by omega) hb255
 have c0:=h.blk.cell 0
 have c1:=h.blk.cell 1
 have c2:=h.blk.cell 2
 unfold sCells at c0 c1 c2
 have hlt:=h.blk.lt
 have HH:=Lib.hid h
 unfold Stepped at hSc
 unfold feed1
 rw [if_neg (by simp [he])]
 have hafter : ∀ w1,w.grownBy w1 (some sc) -> ∀ l lo hi,ScanAt w1 sc l lo hi -> StA w1 base B s m sc o ck { x with sl:=l,slo:=lo,shi:=hi } cl en /\ LowF base w w1:=fun w1 hg l lo hi hsc => by
  have ht : Tch base ssObj w w1:=Tch.of_grown hg h.p.bc h.ns.2 h.scan (show ssObj (.cells _ _ _) from .inr rfl)
  have hz:=hg.size
  refine ⟨⟨h.blk.grown hg ?_,hsc,M.ss h.d ht ?_,h.ns,⟨h.p.sB,h.p.cB,h.p.bs,h.p.bc,Nat.le_trans h.p.hB hz,Nat.le_trans h.p.hb hz⟩⟩,LowF.of_tch ht h.p.hb⟩
  ·intro e
   injection e with e
   have k1:=h.scan
   have k2:=h.blk
   unfold ScanAt Blk at k1
   unfold Blk at k2
   rw [<- e,k2] at k1
   injection k1 with k1
   injection k1 with _ k1
   exact absurd k1 (by decide)
  ·intro k o hk ho
   refine (hg.block k (Array.getElem?_eq_some_iff.1 ho).1 ?_).trans ho
   intro e
   injection e with e
   have:=h.p.cB
   omega
 have HA:=Lib.hid hafter
 have HW:=Lib.hid hw
 clear hafter h hw
 cases hk : stOk x.sl x.slo x.shi (b.toNat : Int) with
 | false =>
  rw [if_neg (by decide)]
  rw [hk] at hSc
  clear hk
  go_enter Tryz.func102,Tryz.ntmps102
  go_wp2_with fail
  refine hSc.mono ?_
  rintro e w1 ⟨rfl,hg1,hsc1⟩
  rw [if_neg (by decide)] at hsc1
  obtain ⟨hA,hlow⟩:=HA.out w1 hg1 _ _ _ hsc1
  have hA3:=hA.set 3 (.int .i64 3) { x with e:=3 } cl en rfl ⟨rfl,rfl,rfl,rfl⟩
  have HF:=Lib.hid (And.intro hA3 (hlow.trans (hA.low 3 (.int .i64 3))))
  have d3:=hA.blk.cell 3
  have f3:=hA.blk.frozen 3
  have hl1:=hA.blk.lt
  unfold sCells at d3
  clear hsc1 hg1 hA hA3 hlow HA HH
  go_wp2
  go_end0
  exact ⟨rfl,HF.out.1,HF.out.2⟩
 | true =>
  rw [if_pos rfl]
  rw [hk] at hSc
  obtain ⟨E,hE⟩ : ∃ E,M.ste x.b b = E:=⟨_,rfl⟩
  obtain ⟨Bb,hBb⟩ : ∃ Bb,M.stp x.b b = Bb:=⟨_,rfl⟩
  rw [hE,hBb]
  have HE:=Lib.hid hE
  have HBb:=Lib.hid hBb
  clear hE hBb
  clear hk
  go_enter Tryz.func102,Tryz.ntmps102
  go_wp2_with fail
  refine hSc.mono ?_
  rintro e w1 ⟨rfl,hg1,hsc1⟩
  rw [if_pos trivial] at hsc1
  obtain ⟨hA,hlow⟩:=HA.out w1 hg1 _ _ _ hsc1
  have d0:=hA.blk.cell 0
  have d2:=hA.blk.cell 2
  unfold sCells at d0 d2
  have HA1:=Lib.hid hA
  have HL1:=Lib.hid hlow
  clear hsc1 hg1 hA hlow HA HH c0 c1 c2
  go_wp2
  refine region_g [15] (S:=(fun W => W.cell? ⟨s,0,none⟩ = some (.iface M.T (.pointer (some ⟨m,0,none⟩))) /\ W.cell? ⟨s,2,none⟩ = some (.pointer (some ⟨o,0,none⟩)))) (by kernel_rfl) ⟨d0,d2⟩ (fun hH => ?_)
  refine g_take (i:=0) (v:=.pointer (some ⟨s,0,none⟩)) (by rfl) (by kernel_rfl) (by kernel_rfl) (by kernel_rfl) (by kernel_rfl) (fun _ _ _ h => (by cases h.1)) (Or.inl ⟨by rfl,fun W hS => (by obtain ⟨s0,s2⟩:=hS; go_simp)⟩) hH ?_
  simp only [Act.put,List.setIfInBounds_toArray,List.set_cons_zero,List.set_cons_succ]
  refine g_take (i:=1) (v:=.pointer (some ⟨s,0,none⟩)) (by rfl) (by kernel_rfl) (by kernel_rfl) (by kernel_rfl) (by kernel_rfl) (fun _ _ _ h => (by cases h.1)) (Or.inl ⟨by rfl,fun W hS => (by obtain ⟨s0,s2⟩:=hS; go_simp)⟩) hH ?_
  simp only [Act.put,List.setIfInBounds_toArray,List.set_cons_zero,List.set_cons_succ]
  refine g_take (i:=2) (v:=.pointer (some ⟨s,0,none⟩)) (by rfl) (by kernel_rfl) (by kernel_rfl) (by kernel_rfl) (by kernel_rfl) (fun _ _ _ h => (by cases h.1)) (Or.inl ⟨by rfl,fun W hS => (by obtain ⟨s0,s2⟩:=hS; go_simp)⟩) hH ?_
  simp only [Act.put,List.setIfInBounds_toArray,List.set_cons_zero,List.set_cons_succ]
  refine g_take (i:=3) (v:=.pointer (some ⟨s,0,none⟩)) (by rfl) (by kernel_rfl) (by kernel_rfl) (by kernel_rfl) (by kernel_rfl) (fun _ _ _ h => (by cases h.1)) (Or.inl ⟨by rfl,fun W hS => (by obtain ⟨s0,s2⟩:=hS; go_simp)⟩) hH ?_
  simp only [Act.put,List.setIfInBounds_toArray,List.set_cons_zero,List.set_cons_succ]
  refine g_take (i:=4) (v:=.iface M.T (.pointer (some ⟨m,0,none⟩))) (by rfl) (by kernel_rfl) (by kernel_rfl) (by kernel_rfl) (by kernel_rfl) (fun _ _ _ h => (by cases h.1)) (Or.inl ⟨by rfl,fun W hS => (by obtain ⟨s0,s2⟩:=hS; go_simp)⟩) hH ?_
  simp only [Act.put,List.setIfInBounds_toArray,List.set_cons_zero,List.set_cons_succ]
  refine g_take (i:=5) (v:=.int .u8 (b.toNat : Int)) (by rfl) (by kernel_rfl) (by kernel_rfl) (by kernel_rfl) (by kernel_rfl) (fun _ _ _ h => (by cases h.1)) (Or.inl ⟨by rfl,fun W hS => (by obtain ⟨s0,s2⟩:=hS; go_simp)⟩) hH ?_
  simp only [Act.put,List.setIfInBounds_toArray,List.set_cons_zero,List.set_cons_succ]
  refine g_take (i:=6) (v:=.pointer (some ⟨s,0,none⟩)) (by rfl) (by kernel_rfl) (by kernel_rfl) (by kernel_rfl) (by kernel_rfl) (fun _ _ _ h => (by cases h.1)) (Or.inl ⟨by rfl,fun W hS => (by obtain ⟨s0,s2⟩:=hS; go_simp)⟩) hH ?_
  simp only [Act.put,List.setIfInBounds_toArray,List.set_cons_zero,List.set_cons_succ]
  refine g_take (i:=7) (v:=.pointer (some ⟨s,0,none⟩)) (by rfl) (by kernel_rfl) (by kernel_rfl) (by kernel_rfl) (by kernel_rfl) (fun _ _ _ h => (by cases h.1)) (Or.inl ⟨by rfl,fun W hS => (by obtain ⟨s0,s2⟩:=hS; go_simp)⟩) hH ?_
  simp only [Act.put,List.setIfInBounds_toArray,List.set_cons_zero,List.set_cons_succ]
  refine g_take (i:=8) (v:=.pointer (some ⟨s,2,none⟩)) (by rfl) (by kernel_rfl) (by kernel_rfl) (by kernel_rfl) (by kernel_rfl) (fun _ _ _ h => (by cases h.1)) (Or.inl ⟨by rfl,fun W hS => (by obtain ⟨s0,s2⟩:=hS; go_simp)⟩) hH ?_
  simp only [Act.put,List.setIfInBounds_toArray,List.set_cons_zero,List.set_cons_succ]
  refine g_take (i:=9) (v:=.pointer (some ⟨o,0,none⟩)) (by rfl) (by kernel_rfl) (by kernel_rfl) (by kernel_rfl) (by kernel_rfl) (fun _ _ _ h => (by cases h.1)) (Or.inl ⟨by rfl,fun W hS => (by obtain ⟨s0,s2⟩:=hS; go_simp)⟩) hH ?_
  simp only [Act.put,List.setIfInBounds_toArray,List.set_cons_zero,List.set_cons_succ]
  refine g_take (i:=10) (v:=.iface M.T (.pointer (some ⟨m,0,none⟩))) (by rfl) (by kernel_rfl) (by kernel_rfl) (by kernel_rfl) (by kernel_rfl) (fun _ _ _ h => (by cases h.1)) (Or.inl ⟨by rfl,fun W hS => (by obtain ⟨s0,s2⟩:=hS; go_simp)⟩) hH ?_
  simp only [Act.put,List.setIfInBounds_toArray,List.set_cons_zero,List.set_cons_succ]
  refine g_take (i:=11) (v:=.iface M.T (.pointer (some ⟨m,0,none⟩))) (by rfl) (by kernel_rfl) (by kernel_rfl) (by kernel_rfl) (by kernel_rfl) (fun _ _ _ h => (by cases h.1)) (Or.inl ⟨by rfl,fun W hS => (by obtain ⟨s0,s2⟩:=hS; go_simp)⟩) hH ?_
  simp only [Act.put,List.setIfInBounds_toArray,List.set_cons_zero,List.set_cons_succ]
  refine g_one (i:=12) (by kernel_rfl) (by rfl) (fun K hK => ?_)
  have hm:=M.hms ⟨m,0,none⟩ w1.drew
  have he:=M.efs
  go_simp
  try rw [hm]
  try simp only [Result.andThen_ok]
  try rw [M.efs]
  try go_simp
  have hdd : M.At w1.drew base B m o ck x.b:=M.ss HA1.out.d (Tch.refl base ssObj w1).drew (fun _ _ _ ho => ho)
  have hB1 : B <= w1.drew.heap.size:=HA1.out.p.hB
  have hb1 : base <= w1.drew.heap.size:=HA1.out.p.hb
  have hSW : SN M.num base w1.drew:=(HW.out.below HL1.out.low).below (below_drew (Below.refl _ _))
  have hcall:=M.step_any w1.drew base B m o ck x.b b n hdd hi hn hB1 hSW hb1
  rw [HE.out,HBb.out] at hcall
  refine hcall.mono ?_
  rintro e w2 ⟨rfl,hD2,hF2⟩
  have hBs : Blk w2 s 111 (sCells M.T m sc o x.e x.rd cl en):=hF2.keep s _ HA1.out.blk HA1.out.p.sB (M.nss _ _ _ (.inl rfl))
  have hSc2 : ScanAt w2 sc (stL x.sl (b.toNat : Int)) (stLo x.sl (b.toNat : Int)) (stHi x.sl (b.toNat : Int)):=hF2.keep sc _ HA1.out.scan HA1.out.p.cB (M.nss _ _ _ (.inr rfl))
  have hz2:=hF2.low.size
  have hA2 : StA w2 base B s m sc o ck ⟨Bb,stL x.sl (b.toNat : Int),stLo x.sl (b.toNat : Int),stHi x.sl (b.toNat : Int),x.e,x.rd⟩ cl en:=⟨hBs,hSc2,hD2,HA1.out.ns,⟨HA1.out.p.sB,HA1.out.p.cB,HA1.out.p.bs,HA1.out.p.bc,Nat.le_trans hB1 hz2,Nat.le_trans hb1 hz2⟩⟩
  have hL2 : LowF base w w2:=(HL1.out.trans (LowF.drew base w1)).trans hF2.lowF
  clear hcall hD2 hF2 hSc2 hz2 hdd hB1 hb1 hSW hm hSc HA1 HL1 HW d0 d2 hH hlt
  have s0:=hBs.cell 0
  have s2:=hBs.cell 2
  have s3:=hBs.cell 3
  have f3:=hBs.frozen 3
  have hl2:=hBs.lt
  unfold sCells at s0 s2 s3
  have HA2:=Lib.hid hA2
  have HL2:=Lib.hid hL2
  clear hA2 hL2 hBs
  refine hK.out _ _ (fun _ => ⟨s0,s2⟩) (fun _ => ?_)
  clear hK K
  refine g_one (i:=13) (by kernel_rfl) (by rfl) (fun K hK => ?_)
  go_simp
  refine hK.out _ _ (fun _ => ⟨s0,s2⟩) (fun _ => ?_)
  clear hK K
  refine g_one (i:=14) (by kernel_rfl) (by rfl) (fun K hK => ?_)
  go_simp
  refine hK.out _ _ (fun _ => ⟨s0,s2⟩) (fun _ => ?_)
  clear hK K
  refine g_one (i:=15) (by kernel_rfl) (by rfl) (fun K hK => ?_)
  go_simp
  refine hK.out _ _ (fun h => absurd (List.mem_singleton.2 rfl) h) (fun _ => ?_)
  clear hK K
  refine g_done (by kernel_rfl) ⟨by first | rfl | trivial,?_⟩ _
  have hA3:=HA2.out.set 3 (.int .i64 E) ⟨Bb,stL x.sl (b.toNat : Int),stLo x.sl (b.toNat : Int),stHi x.sl (b.toNat : Int),E,x.rd⟩ cl en rfl ⟨rfl,rfl,rfl,rfl⟩
  have hL3:=HL2.out.trans (HA2.out.low 3 (.int .i64 E))
  generalize hW3 : w2.setCell ⟨s,3,none⟩ (.int .i64 E) = w3 at *
  clear hW3 s0 s2 s3 f3 hl2 HA2 HL2
  have t3:=hA3.blk.cell 3
  have t4:=hA3.blk.cell 4
  have f4:=hA3.blk.frozen 4
  have hl3:=hA3.blk.lt
  unfold sCells at t3 t4
  obtain ⟨r1,hr1⟩ : ∃ r1 : Nat,(x.rd : Int) + 1 = r1:=⟨x.rd + 1,rfl⟩
  have hr1n : x.rd + 1 = r1:=by omega
  by_cases hz : E = 0
  ·subst hz
   have hA4:=hA3.set 4 (.int .i64 (r1 : Int)) ⟨Bb,stL x.sl (b.toNat : Int),stLo x.sl (b.toNat : Int),stHi x.sl (b.toNat : Int),0,r1⟩ cl en rfl ⟨rfl,rfl,rfl,rfl⟩
   have HF:=Lib.hid (And.intro hA4 (hL3.trans (hA3.low 4 (.int .i64 (r1 : Int)))))
   have HN:=Lib.hid hr1n
   clear hA3 hL3 hA4 hr1n
   go_wp2
   go_end0
   refine ⟨rfl,?_,HF.out.2⟩
   have h1:=HF.out.1
   have h2:=HN.out
   clear HN
   subst h2
   first | exact h1 | simpa only [if_true,if_pos] using h1
  ·have e1 : (E == 0) = false:=by rw [beq_eq_false_iff_ne]; exact hz
   have HF:=Lib.hid (And.intro hA3 hL3)
   have HZ:=Lib.hid hz
   clear hA3 hL3 hr1 hr1n hz
   go_wp2
   go_end0
   have h1:=HF.out.1
   refine ⟨rfl,?_,HF.out.2⟩
   first | exact h1 | (rw [if_neg HZ.out]; exact h1)
end Go.Proofs.YtbnppjmmlfncmaaGreatDoor
namespace Go.Proofs.YtbnppjmmlfncmaaGreatDoor
open Go.RowKit Go.Maps
variable [Fo]
variable {M : Mach}
set_option maxHeartbeats 4000000 in
theorem feed_any (w : World) (base B s m sc o ck : Nat) (x : Ss M.toMachP) (en : Bool) (n : Nat) (v : Value) (bs : List UInt8) (h : StA w base B s m sc o ck x false en) (hi : SInv x n) (hn : n + bs.length <= 90000) (hv : ∀ w',LowF base w w' -> BRead w' v bs) (hw : SN M.num base w) :
 Calls Tryz.prog 59 #[.pointer (some ⟨s,0,none⟩),v] w fun e w' => e = .returned (.bool true) /\ StA w' base B s m sc o ck (feedG x bs) false en /\ LowF base w w':=by
 obtain ⟨A,c,rfl,_⟩:=hv w (LowF.refl _ _)
 have c5:=h.blk.cell 5
 unfold sCells at c5
 go_enter Tryz.func59,Tryz.ntmps59
 go_wp2
 clear c5
 go_loopw [5] (fun i wr => ∃ (k : Nat) (y : Ss M.toMachP),k <= bs.length /\ i = .int .i64 k /\ StA wr base B s m sc o ck y false en /\ Hid (SInv y (n + k)) /\ Hid (LowF base w wr) /\ Hid (feedG x bs = feedG y (bs.drop k))) (fun i _ => bs.length - (intOf i).toNat)
 case atStart => exact ⟨0,x,Nat.zero_le _,rfl,h,Lib.hid hi,Lib.hid (LowF.refl _ _),Lib.hid rfl⟩
 case round =>
  obtain ⟨k,y,hk,rfl,hA,HI,HB,HW⟩:=hrel
  have c3:=hA.blk.cell 3
  unfold sCells at c3
  have HA:=Lib.hid hA
  by_cases hlt : k < bs.length
  ·by_cases he : y.e = 0
   ·rw [he] at c3
    have hd:=HW.out
    rw [List.drop_eq_getElem_cons hlt,feedG_cons] at hd
    have HD:=Lib.hid hd
    obtain ⟨ad,rfl,hcell⟩ : ∃ ad : Addr,A = some ad /\ ∀ j (h : j < bs.length),wr.cell? (ad.add j) = some (.int .u8 (bs[j].toNat : Int)):=by
     obtain ⟨A',c',hvv,hr⟩:=hv wr HB.out
     injection hvv with e1 _ _
     obtain ⟨ad,e2,hcell⟩:=hr (by omega)
     exact ⟨ad,e1.trans e2,hcell⟩
    have hck:=hcell k hlt
    have HC:=Lib.hid (sstep_any wr base B s m sc o ck y false en bs[k] (2 * (n + k)) hA he (HI.out.b he) (by omega) (by have:=HI.out.rd; omega) HI.out.sl (hw.below HB.out.low))
    have HI2:=Lib.hid (sinv_feed1 HI.out bs[k])
    clear hA hd hcell he
    go_wp2_with fail
    refine HC.out.mono ?_
    rintro e w3 ⟨rfl,hA3,hB3⟩
    go_wp2
    go_roundw
    case rel => exact ⟨k + 1,_,hlt,by go_num,hA3,HI2,Lib.hid (HB.out.trans hB3),HD⟩
    case measure => first | (simp [intOf]; done) | (simp [intOf]; omega)
   ·have e0 : (y.e == 0) = false:=by rw [beq_eq_false_iff_ne]; exact he
    have HD:=Lib.hid (HW.out.trans (feedG_stop he _))
    clear hA he
    go_wp2
    go_ret
    exact ⟨rfl,by rw [HD.out]; exact HA.out,HB.out⟩
  ·have hke : k = bs.length:=by omega
   have hd:=HW.out
   rw [List.drop_of_length_le (by omega)] at hd
   have HD:=Lib.hid hd
   subst hke
   clear hA hd
   go_wp2
   go_ret
   exact ⟨rfl,by rw [HD.out]; exact HA.out,HB.out⟩
end Go.Proofs.YtbnppjmmlfncmaaGreatDoor
namespace Go.Proofs.YtbnppjmmlfncmaaGreatDoor
open Go.RowKit Go.Maps
variable [Fo]
variable {M : Mach}
structure EAt (T : TypeId) (w : World) (base s m sc o ck : Nat) (e : Int) (rd : Nat) (cl en : Bool) (st : List Pt) (l : List Ev) : Prop where
 blk : Blk w s 111 (sCells T m sc o e rd cl en)
 out : OAt w base o ck st l
 bs : base <= s
 ns : ¬ Fo.F s
set_option maxHeartbeats 4000000 in
theorem send_any (w : World) (base B s m sc o ck : Nat) (x : Ss M.toMachP) (cl en : Bool) (n : Nat) (h : StA w base B s m sc o ck x cl en) (hi : M.Inv x.b n) (hn : n <= 200000) (hw : SN M.num base w) :
 Calls Tryz.prog 103 #[.pointer (some ⟨s,0,none⟩)] w fun e w' => e = .returned (.int .i64 (sendE x)) /\ EAt M.T w' base s m sc o ck x.e x.rd cl en (M.st (endBs x)) (M.l (endBs x)) /\ LowF base w w':=by
 have c0:=h.blk.cell 0
 have c1:=h.blk.cell 1
 have c2:=h.blk.cell 2
 unfold sCells at c0 c1 c2
 have hlt:=h.blk.lt
 have hWh:=whole_any w sc x.sl x.slo x.shi h.scan
 unfold sendE endBs
 by_cases hz : x.sl = 0
 ·rw [if_pos hz,if_pos hz]
  rw [hz] at hWh
  have HE:=Lib.hid (M.end_any w.drew base B m o ck x.b n (M.ss h.d (Tch.refl base ssObj w).drew (fun _ _ _ ho => ho)) hi hn (hw.below (below_drew (Below.refl _ _))) h.p.hb)
  have HA:=Lib.hid h
  clear hz h
  go_enter Tryz.func103,Tryz.ntmps103
  go_wp2_with fail
  refine hWh.mono ?_
  rintro e w' ⟨rfl,rfl⟩
  go_wp2
  refine region_g [11] (S:=(fun W => W.cell? ⟨s,0,none⟩ = some (.iface M.T (.pointer (some ⟨m,0,none⟩))) /\ W.cell? ⟨s,2,none⟩ = some (.pointer (some ⟨o,0,none⟩)))) (by kernel_rfl) ⟨c0,c2⟩ (fun hH => ?_)
  refine g_take (i:=0) (v:=.pointer (some ⟨s,0,none⟩)) (by rfl) (by kernel_rfl) (by kernel_rfl) (by kernel_rfl) (by kernel_rfl) (fun _ _ _ h => (by cases h.1)) (Or.inl ⟨by rfl,fun W hS => (by obtain ⟨s0,s2⟩:=hS; go_simp)⟩) hH ?_
  simp only [Act.put,List.setIfInBounds_toArray,List.set_cons_zero,List.set_cons_succ]
  refine g_take (i:=1) (v:=.pointer (some ⟨s,0,none⟩)) (by rfl) (by kernel_rfl) (by kernel_rfl) (by kernel_rfl) (by kernel_rfl) (fun _ _ _ h => (by cases h.1)) (Or.inl ⟨by rfl,fun W hS => (by obtain ⟨s0,s2⟩:=hS; go_simp)⟩) hH ?_
  simp only [Act.put,List.setIfInBounds_toArray,List.set_cons_zero,List.set_cons_succ]
  refine g_take (i:=2) (v:=.pointer (some ⟨s,0,none⟩)) (by rfl) (by kernel_rfl) (by kernel_rfl) (by kernel_rfl) (by kernel_rfl) (fun _ _ _ h => (by cases h.1)) (Or.inl ⟨by rfl,fun W hS => (by obtain ⟨s0,s2⟩:=hS; go_simp)⟩) hH ?_
  simp only [Act.put,List.setIfInBounds_toArray,List.set_cons_zero,List.set_cons_succ]
  refine g_take (i:=3) (v:=.iface M.T (.pointer (some ⟨m,0,none⟩))) (by rfl) (by kernel_rfl) (by kernel_rfl) (by kernel_rfl) (by kernel_rfl) (fun _ _ _ h => (by cases h.1)) (Or.inl ⟨by rfl,fun W hS => (by obtain ⟨s0,s2⟩:=hS; go_simp)⟩) hH ?_
  simp only [Act.put,List.setIfInBounds_toArray,List.set_cons_zero,List.set_cons_succ]
  refine g_take (i:=4) (v:=.pointer (some ⟨s,0,none⟩)) (by rfl) (by kernel_rfl) (by kernel_rfl) (by kernel_rfl) (by kernel_rfl) (fun _ _ _ h => (by cases h.1)) (Or.inl ⟨by rfl,fun W hS => (by obtain ⟨s0,s2⟩:=hS; go_simp)⟩) hH ?_
  simp only [Act.put,List.setIfInBounds_toArray,List.set_cons_zero,List.set_cons_succ]
  refine g_take (i:=5) (v:=.pointer (some ⟨s,0,none⟩)) (by rfl) (by kernel_rfl) (by kernel_rfl) (by kernel_rfl) (by kernel_rfl) (fun _ _ _ h => (by cases h.1)) (Or.inl ⟨by rfl,fun W hS => (by obtain ⟨s0,s2⟩:=hS; go_simp)⟩) hH ?_
  simp only [Act.put,List.setIfInBounds_toArray,List.set_cons_zero,List.set_cons_succ]
  refine g_take (i:=6) (v:=.pointer (some ⟨s,2,none⟩)) (by rfl) (by kernel_rfl) (by kernel_rfl) (by kernel_rfl) (by kernel_rfl) (fun _ _ _ h => (by cases h.1)) (Or.inl ⟨by rfl,fun W hS => (by obtain ⟨s0,s2⟩:=hS; go_simp)⟩) hH ?_
  simp only [Act.put,List.setIfInBounds_toArray,List.set_cons_zero,List.set_cons_succ]
  refine g_take (i:=7) (v:=.pointer (some ⟨o,0,none⟩)) (by rfl) (by kernel_rfl) (by kernel_rfl) (by kernel_rfl) (by kernel_rfl) (fun _ _ _ h => (by cases h.1)) (Or.inl ⟨by rfl,fun W hS => (by obtain ⟨s0,s2⟩:=hS; go_simp)⟩) hH ?_
  simp only [Act.put,List.setIfInBounds_toArray,List.set_cons_zero,List.set_cons_succ]
  refine g_take (i:=8) (v:=.iface M.T (.pointer (some ⟨m,0,none⟩))) (by rfl) (by kernel_rfl) (by kernel_rfl) (by kernel_rfl) (by kernel_rfl) (fun _ _ _ h => (by cases h.1)) (Or.inl ⟨by rfl,fun W hS => (by obtain ⟨s0,s2⟩:=hS; go_simp)⟩) hH ?_
  simp only [Act.put,List.setIfInBounds_toArray,List.set_cons_zero,List.set_cons_succ]
  refine g_take (i:=9) (v:=.iface M.T (.pointer (some ⟨m,0,none⟩))) (by rfl) (by kernel_rfl) (by kernel_rfl) (by kernel_rfl) (by kernel_rfl) (fun _ _ _ h => (by cases h.1)) (Or.inl ⟨by rfl,fun W hS => (by obtain ⟨s0,s2⟩:=hS; go_simp)⟩) hH ?_
  simp only [Act.put,List.setIfInBounds_toArray,List.set_cons_zero,List.set_cons_succ]
  refine g_one (i:=10) (by kernel_rfl) (by rfl) (fun K hK => ?_)
  have hm:=M.hme ⟨m,0,none⟩ w.drew
  have he:=M.efe
  go_simp
  try rw [hm]
  try simp only [Result.andThen_ok]
  try rw [M.efe]
  try go_simp
  refine HE.out.mono ?_
  rintro e w2 ⟨rfl,hO2,hF2⟩
  have hBs : Blk w2 s 111 (sCells M.T m sc o x.e x.rd cl en):=hF2.keep s _ HA.out.blk HA.out.p.sB (M.nss _ _ _ (.inl rfl))
  have s0:=hBs.cell 0
  have s2:=hBs.cell 2
  unfold sCells at s0 s2
  refine hK.out _ _ (fun _ => ⟨s0,s2⟩) (fun _ => ?_)
  clear hK K
  have HF:=Lib.hid (And.intro (EAt.mk hBs hO2 HA.out.p.bs HA.out.ns.1) ((LowF.drew base w).trans hF2.lowF))
  clear hm HA HE hBs hO2 hF2
  refine g_one (i:=11) (by kernel_rfl) (by rfl) (fun K hK => ?_)
  go_simp
  refine hK.out _ _ (fun h => absurd (List.mem_singleton.2 rfl) h) (fun _ => ?_)
  clear hK K
  refine g_done (by kernel_rfl) ⟨by first | rfl | trivial,?_⟩ _
  go_wp2
  go_ret
  exact ⟨rfl,HF.out.1,HF.out.2⟩
 ·rw [if_neg hz,if_neg hz]
  have e1 : decide (x.sl = 0) = false:=by simpa using hz
  rw [e1] at hWh
  have HF:=Lib.hid (And.intro (EAt.mk h.blk (M.out h.d) h.p.bs h.ns.1) (LowF.refl base w))
  clear hz h e1
  go_enter Tryz.func103,Tryz.ntmps103
  go_wp2_with fail
  refine hWh.mono ?_
  rintro e w' ⟨rfl,rfl⟩
  go_wp2
  go_ret
  exact ⟨rfl,HF.out.1,HF.out.2⟩
theorem EAt.set {T : TypeId} {w : World} {base s m sc o ck : Nat} {e : Int} {rd : Nat} {cl en : Bool} {st : List Pt} {l : List Ev} (h : EAt T w base s m sc o ck e rd cl en st l) (i : Nat) (u : Value) (e' : Int) (rd' : Nat) (cl' en' : Bool) (hc : (sCells T m sc o e rd cl en).setIfInBounds i u = sCells T m sc o e' rd' cl' en') :
 EAt T (w.setCell ⟨s,i,none⟩ u) base s m sc o ck e' rd' cl' en' st l /\ LowF base w (w.setCell ⟨s,i,none⟩ u):=by
 have ht : Tch base ssObj w (w.setCell ⟨s,i,none⟩ u):=(Tch.refl _ _ _).set h.blk h.bs h.ns (show ssObj (.cells _ _ _) from .inl rfl) i u
 exact ⟨⟨by rw [<- hc]; exact h.blk.set_ i u,h.out.of_ss ht,h.bs,h.ns⟩,LowF.of_tch ht (Nat.le_trans h.bs (Nat.le_of_lt h.blk.lt))⟩
set_option maxHeartbeats 4000000 in
theorem sclose_any (w : World) (base B s m sc o ck : Nat) (x : Ss M.toMachP) (en : Bool) (n : Nat) (h : StA w base B s m sc o ck x false en) (hi : x.e = 0 -> M.Inv x.b n) (hn : n <= 200000) (hw : SN M.num base w) :
 Calls Tryz.prog 60 #[.pointer (some ⟨s,0,none⟩)] w fun e w' => e = .returned (.tuple #[]) /\ EAt M.T w' base s m sc o ck (closeE x) x.rd true en (M.st (closeBs x)) (M.l (closeBs x)) /\ LowF base w w':=by
 have c5:=h.blk.cell 5
 have c3:=h.blk.cell 3
 unfold sCells at c5 c3
 have f5:=h.blk.frozen 5
 have hlt:=h.blk.lt
 unfold closeE closeBs
 by_cases he : x.e = 0
 ·rw [if_neg (by simp [he]),if_neg (by simp [he])]
  rw [he] at c3
  have hC:=send_any w base B s m sc o ck x false en n h (hi he) hn hw
  obtain ⟨E,hE⟩ : ∃ E,sendE x = E:=⟨_,rfl⟩
  rw [hE] at hC ⊢
  rw [he] at hC
  have HC:=Lib.hid hC
  clear h he hE hC
  go_enter Tryz.func60,Tryz.ntmps60
  go_wp2_with fail
  refine HC.out.mono ?_
  rintro e w1 ⟨rfl,hE1,hB1⟩
  have g3:=hE1.blk.cell 3
  have gf3:=hE1.blk.frozen 3
  have gl:=hE1.blk.lt
  unfold sCells at g3
  obtain ⟨hE2,hB2⟩:=hE1.set 3 (.int .i64 E) E x.rd false en rfl
  obtain ⟨hE3,hB3⟩:=hE2.set 5 (.bool true) E x.rd true en rfl
  have k5:=hE2.blk.cell 5
  have kf5:=hE2.blk.frozen 5
  have kl:=hE2.blk.lt
  unfold sCells at k5
  have HF:=Lib.hid (And.intro hE3 ((hB1.trans hB2).trans hB3))
  clear HC hE1 hB1 hE2 hB2 hE3 hB3 c5 c3 f5 hlt
  go_wp2
  go_end0
  exact ⟨rfl,HF.out.1,HF.out.2⟩
 ·rw [if_pos he,if_pos he]
  have e0 : (x.e == 0) = false:=by rw [beq_eq_false_iff_ne]; exact he
  have hE1 : EAt M.T w base s m sc o ck x.e x.rd false en (M.st x.b) (M.l x.b):=EAt.mk h.blk (M.out h.d) h.p.bs h.ns.1
  obtain ⟨hE3,hB3⟩:=hE1.set 5 (.bool true) x.e x.rd true en rfl
  have HF:=Lib.hid (And.intro hE3 hB3)
  clear h he hE1 hE3 hB3
  go_enter Tryz.func60,Tryz.ntmps60
  go_wp2
  go_end0
  exact ⟨rfl,HF.out.1,HF.out.2⟩
end Go.Proofs.YtbnppjmmlfncmaaGreatDoor
