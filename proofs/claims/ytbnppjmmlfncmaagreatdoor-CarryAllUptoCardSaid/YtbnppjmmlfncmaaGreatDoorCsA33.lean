/-
  carry: the search of delim.
  carry: what stands in a table, visited: each field may turn a mark beside the search.
  carry: the search of sections: which fields are deep, flat values, lines that are too long.
-/
import Derived.Test.YtbnppjmmlfncmaaGreatDoorCsA32
import Derived.Test.YtbnppjmmlfncmaaGreatDoorCsA15
import Derived.Test.YtbnppjmmlfncmaaGreatDoorCsA28
set_option maxRecDepth 100000
set_option linter.unusedSimpArgs false
set_option linter.unusedVariables false
namespace Go.Proofs.YtbnppjmmlfncmaaGreatDoor
open Go.RowKit Go.Maps
theorem nbox' {s : Nat} {g : Option Nat} {w : World} {k : Nat} {n : Nd} {A : Option Addr} {c : Nat} (h : Bes s g w k 24 #[.int .i64 n.k,.string n.t,.string n.v,.slice A n.kids.length c]) :
 w.cell? ⟨k,0,none⟩ = some (.int .i64 n.k) /\ w.cell? ⟨k,1,none⟩ = some (.string n.t) /\ w.cell? ⟨k,2,none⟩ = some (.string n.v) /\ w.cell? ⟨k,3,none⟩ = some (.slice A n.kids.length c):=nbox h.1
theorem sbox' {s : Nat} {g : Option Nat} {w : World} {k : Nat} {u : Value} {t : TypeId} (h : Bes s g w k t #[u]) : w.cell? ⟨k,0,none⟩ = some u:=h.1.cell 0
theorem NAt.lows {s : Nat} {n : Nd} {A : Option Addr} {c : Nat} {w w' : World} {path : List Nat} {g g' : Option Nat} (h : NAt (fun b _ => b < s) w n A c) (hi : SI s w path g) (f : FrS s g w w' g') : NAt (fun b _ => b < s) w' n A c:=h.low (fun q hq => (f.low hi).block q hq)
theorem NAt.lowb {s : Nat} {n : Nd} {A : Option Addr} {c : Nat} {w w' : World} {path : List Nat} {g : Option Nat} (h : NAt (fun b _ => b < s) w n A c) (hi : SI s w path g) (f : Below w.heap.size w w') : NAt (fun b _ => b < s) w' n A c:=h.low (fun q hq => f.block q (Nat.lt_trans hq hi.lt))
theorem refuse_end {s : Nat} {path : List Nat} {g : Option Nat} {w w0 w1 : World} {st : Sr} {n : Nd} {v : Value} (hi : SI s w path g) (hb : badS st n = true) (f : Below w.heap.size w w0) (ho : ORow w1 (s + 1) 3 v (pV path)) (h1 : Below w0.heap.size w0 w1) : VPost s path g w (srN badS nextS n st) (.panicked (foundP v)) w1 :=
 .inr ⟨[],v,srN_bad st n hb,rfl,by rw [List.append_nil]; exact ho,(f.mono (Nat.le_of_lt hi.lt)).trans (h1.mono (Nat.le_trans (Nat.le_of_lt hi.lt) f.size))⟩
set_option maxHeartbeats 4000000 in
theorem d3_vis (n : Nd) (hl : n.k = 4 -> n.kids = []) (s : Nat) (path : List Nat) (g : Option Nat) (b1 : Nat) (A : Option Addr) (c : Nat) (w : World) (hi : SI s w path g) (h1 : Bes s g w b1 51 #[.pointer (some ⟨s,0,none⟩)]) :
 Calls Tryz.prog 93 #[ndVal n A c,.pointer (some ⟨b1,0,none⟩)] w (VPost s path g w (srN badS nextS n .dl3)):=by
 have al:=al_nd w #[.int .i64 n.k,.string n.t,.string n.v,.slice A n.kids.length c]
 have HI:=Lib.hid hi
 have hi1:=hi.below al
 have s0:=sbox' (h1.below al)
 obtain ⟨x0,x1,x2,x3⟩:=nbox (Blk.new w 24 #[.int .i64 n.k,.string n.t,.string n.v,.slice A n.kids.length c])
 have HAL:=Lib.hid al
 unfold ndVal
 by_cases hk : n.k = 4
 case neg =>
  have hb : badS .dl3 n = true:=by simp [badS,hk]
  have hR:=refuse_yes s path g _ hi1
  have HE : Hid (∀ w1 v,ORow w1 (s + 1) 3 v (pV path) -> Below _ _ w1 -> VPost s path g w (srN badS nextS n .dl3) (.panicked (foundP v)) w1):=Lib.hid fun w1 v ho h => refuse_end hi hb al ho h
  have z1:=ibne hk
  have z2:=ibeq hk
  generalize n.k = k at *
  clear hk hb hl hi hi1 h1
  go_enter Tryz.func93,Tryz.ntmps93
  go_wp2_with fail
  refine hR.mono ?_
  rintro e w1 ⟨u,rfl,ho,hb⟩
  exact ⟨rfl,HE.out w1 u ho hb⟩
 case pos =>
  have hr : srN badS nextS n .dl3 = none:=by
   rw [srN_good _ _ (by simp [badS,hk])]
   unfold restS
   rw [hl hk]
   simp [srL_nil]
  rw [hr]
  have hR:=refuse_no s
  rw [hk] at x0 al HAL hi1 s0 ⊢
  clear hl hr hi h1 hk
  rw [show (n.kids.length) = n.kids.length from rfl] at *
  go_enter Tryz.func93,Tryz.ntmps93
  go_wp2_with fail
  refine (hR _).mono ?_
  rintro e w1 ⟨rfl,rfl⟩
  go_wp2
  go_end0
  exact .inl ⟨rfl,rfl,g,hi1,FrS.of_below al⟩
set_option maxHeartbeats 4000000 in
theorem d2_vis (n : Nd) (hl : ∀ m ∈ n.kids,m.k = 4 -> m.kids = []) (s : Nat) (path : List Nat) (g : Option Nat) (b1 : Nat) (A : Option Addr) (c : Nat) (w : World) (hi : SI s w path g) (hA : NAt (fun b _ => b < s) w n A c) (hlen : path.length + sizeN n <= 100000) (h1 : Bes s g w b1 51 #[.pointer (some ⟨s,0,none⟩)]) :
 Calls Tryz.prog 92 #[ndVal n A c,.pointer (some ⟨b1,0,none⟩)] w (VPost s path g w (srN badS nextS n .dl2)):=by
 have al:=al_nd w #[.int .i64 n.k,.string n.t,.string n.v,.slice A n.kids.length c]
 have HI:=Lib.hid hi
 have hi1:=hi.below al
 have s0:=sbox' (h1.below al)
 have HF : Hid (FrS s g w _ g):=Lib.hid (FrS.of_below al)
 obtain ⟨x0,x1,x2,x3⟩:=nbox (Blk.new w 24 #[.int .i64 n.k,.string n.t,.string n.v,.slice A n.kids.length c])
 rw [srN_good .dl2 n rfl]
 have hK:=kids_vis .dl2 s path g n A c _ hi1 (hA.lowb hi al) hlen 93 #[] #[.pointer (some ⟨b1,0,none⟩)] (fun _ _ => rfl) (fun j h w1 g1 B cB k1 k2 k3 k4 => by
  have:=d3_vis (n.kids.getD j dNd) (hl _ (by rw [getDn h]; exact List.getElem_mem h)) s _ g1 b1 B cB w1 k1 ((h1.below al).fr k2)
  simpa [nextS] using this)
 unfold ndVal at hK ⊢
 clear hi hi1 h1 hA hl al
 go_enter Tryz.func92,Tryz.ntmps92
 go_wp2_with fail
 refine hK.mono ?_
 intro e w1 h
 have h2:=VPost.pre HI.out HF.out h
 rcases h2.cases_ with ⟨_,rfl,h3⟩ | ⟨u,rfl,h3⟩
 ·clear h h2 hK
  go_wp2
  go_end0
  exact h3
 ·exact ⟨rfl,h3⟩
set_option maxHeartbeats 8000000 in
theorem d1_vis (root n : Nd) (hl : ∀ f ∈ n.kids,∀ m ∈ f.kids,m.k = 4 -> m.kids = []) (hp : 0 < root.kids.length) (s : Nat) (path : List Nat) (g : Option Nat) (b1 b2 : Nat) (RA A : Option Addr) (rc c : Nat) (w : World) (hi : SI s w path g) (hRA : NAt (fun b _ => b < s) w root RA rc) (hA : NAt (fun b _ => b < s) w n A c) (hlen : path.length + sizeN n <= 100000)
 (h1 : Bes s g w b1 51 #[.pointer (some ⟨s,0,none⟩)]) (h2 : Bes s g w b2 24 #[.int .i64 root.k,.string root.t,.string root.v,.slice RA root.kids.length rc]) :
 Calls Tryz.prog 90 #[ndVal n A c,.pointer (some ⟨b1,0,none⟩),.pointer (some ⟨b2,0,none⟩)] w (VPost s path g w (srN badS nextS n (.dl1 (root.kids.getD 0 dNd)))):=by
 have al:=al_nd w #[.int .i64 n.k,.string n.t,.string n.v,.slice A n.kids.length c]
 have hi1:=hi.below al
 have bX:=Bes.new hi 24 #[.int .i64 n.k,.string n.t,.string n.v,.slice A n.kids.length c]
 obtain ⟨W0,hW0⟩ : ∃ W0,w.alloc (.cells #[.int .i64 n.k,.string n.t,.string n.v,.slice A n.kids.length c] 24) = W0:=⟨_,rfl⟩
 rw [hW0] at al hi1 bX
 obtain ⟨hrc,hrm,hrk⟩:=(NAt.def_ _ _ _).1 (hRA.lowb hi al)
 obtain ⟨b,o,rfl,hbo,hkid⟩:=hrk hp
 have hrm2 : rc <= 9223372036854775807:=by simpa [maxLen] using hrm
 have hk1:=hkid 0 hp
 rw [<- getDn hp] at hk1
 simp only [Nat.zero_mul,Nat.add_zero] at hk1
 obtain ⟨B,cB,q0,q1,q2,q3,hn1⟩:=hk1
 have hpc : 0 < rc:=by omega
 have hpi : (0 : Int) < root.kids.length:=by omega
 have HL:=hl
 obtain ⟨fst,hfst⟩ : ∃ f,root.kids.getD 0 dNd = f:=⟨_,rfl⟩
 rw [hfst] at q0 q1 q2 q3 hn1 ⊢
 obtain ⟨RL,hRL⟩ : ∃ RL,root.kids.length = RL:=⟨_,rfl⟩
 rw [hRL] at h2 hp hpi hrc
 have cells : ∀ W,Below W0.heap.size W0 W -> W.cell? ⟨b1,0,none⟩ = some (.pointer (some ⟨s,0,none⟩)) /\ W.cell? ⟨w.heap.size,0,none⟩ = some (.int .i64 n.k) /\ W.cell? ⟨w.heap.size,1,none⟩ = some (.string n.t) /\ W.cell? ⟨w.heap.size,2,none⟩ = some (.string n.v) /\ W.cell? ⟨w.heap.size,3,none⟩ = some (.slice A n.kids.length c) /\ W.cell? ⟨b2,3,none⟩ = some (.slice (some ⟨b,o,none⟩) RL rc) /\
  W.cell? ⟨b,o,none⟩ = some (.int .i64 fst.k) /\ W.cell? ⟨b,o + 1,none⟩ = some (.string fst.t) /\ W.cell? ⟨b,o + 2,none⟩ = some (.string fst.v) /\ W.cell? ⟨b,o + 3,none⟩ = some (.slice B fst.kids.length cB):=fun W h => by
  have e1:=(h1.below al).below h
  have e2:=(h2.below al).below h
  obtain ⟨x0,x1,x2,x3⟩:=nbox' (bX.below h)
  have y3 : W.cell? ⟨b2,3,none⟩ = some (.slice (some ⟨b,o,none⟩) RL rc):=e2.1.cell 3
  exact ⟨sbox' e1,x0,x1,x2,x3,y3,(h.cell (p:=⟨b,o,none⟩) (cell_lt q0)).trans q0,(h.cell (p:=⟨b,o + 1,none⟩) (cell_lt q1)).trans q1,(h.cell (p:=⟨b,o + 2,none⟩) (cell_lt q2)).trans q2,(h.cell (p:=⟨b,o + 3,none⟩) (cell_lt q3)).trans q3⟩
 have hIs:=fun (W : World) (h : Below W0.heap.size W0 W) => isrow_any n fst _ _ A B c cB W ((hA.lowb hi al).below h) (hn1.below h)
 have hRy:=fun (W : World) (h : Below W0.heap.size W0 W) => refuse_yes s path g W (hi1.below h)
 have HRE : Hid (badS (.dl1 fst) n = true -> ∀ W w1 v,Below W0.heap.size W0 W -> ORow w1 (s + 1) 3 v (pV path) -> Below W.heap.size W w1 -> VPost s path g w (srN badS nextS n (.dl1 fst)) (.panicked (foundP v)) w1):=Lib.hid fun hb W w1 v h0 ho h => refuse_end hi hb (al.trans (h0.mono al.size)) ho h
 have HK : Hid (badS (.dl1 fst) n = false -> ∀ W,Below W0.heap.size W0 W -> Calls Tryz.prog 84 #[.pointer (some ⟨s,0,none⟩),.agg #[.int .i64 n.k,.string n.t,.string n.v,.slice A n.kids.length c],.func (.func 92) #[] #[.pointer (some ⟨b1,0,none⟩)]] W (VPost s path g w (srN badS nextS n (.dl1 fst)))):=Lib.hid fun hb W h0 => by
  rw [srN_good _ _ hb]
  have hw0:=al.trans (h0.mono al.size)
  refine (kids_vis (.dl1 fst) s path g n A c W (hi1.below h0) (hA.lowb hi hw0) hlen 92 #[] #[.pointer (some ⟨b1,0,none⟩)] (fun _ _ => rfl) (fun j h w1 g1 B cB k1 k2 k3 k4 => by
   have:=d2_vis (n.kids.getD j dNd) (HL _ (by rw [getDn h]; exact List.getElem_mem h)) s _ g1 b1 B cB w1 k1 k3 k4 ((h1.below hw0).fr k2)
   simpa [nextS] using this)).mono fun e w1 h => VPost.pre hi (FrS.of_below hw0) h
 have hbad : badS (.dl1 fst) n = !rowB n fst:=rfl
 rw [hbad] at HRE HK
 generalize srN badS nextS n (.dl1 fst) = R at *
 clear hi hA hRA hi1 bX h1 h2 hl HL hn1 q0 q1 q2 q3 hkid hrk hfst hRL hbad hlen hrm
 unfold ndVal at *
 go_enter Tryz.func90,Tryz.ntmps90
 go_wp2
 clear hW0
 refine region_gp [] (S:=(fun W => W.cell? ⟨b1,0,none⟩ = some (.pointer (some ⟨s,0,none⟩)) /\ W.cell? ⟨w.heap.size,0,none⟩ = some (.int .i64 n.k) /\ W.cell? ⟨w.heap.size,1,none⟩ = some (.string n.t) /\ W.cell? ⟨w.heap.size,2,none⟩ = some (.string n.v) /\ W.cell? ⟨w.heap.size,3,none⟩ = some (.slice A n.kids.length c) /\ W.cell? ⟨b2,3,none⟩ = some (.slice (some ⟨b,o,none⟩) RL rc) /\
  W.cell? ⟨b,o,none⟩ = some (.int .i64 fst.k) /\ W.cell? ⟨b,o + 1,none⟩ = some (.string fst.t) /\ W.cell? ⟨b,o + 2,none⟩ = some (.string fst.v) /\ W.cell? ⟨b,o + 3,none⟩ = some (.slice B fst.kids.length cB))) (fun c w' => VPost s path g w R (.panicked c) w') (by kernel_rfl) (cells _ (below_drew (Below.refl _ _))) (fun c a' w' hd hR => ⟨hd,hR⟩) (fun hH => ?_)
 refine g_take (i:=0) (v:=.pointer (some ⟨s,0,none⟩)) (by rfl) (by kernel_rfl) (by kernel_rfl) (by kernel_rfl) (by kernel_rfl) (fun _ _ _ h => pan_put h) (Or.inl ⟨by kernel_rfl,fun W hS => (by obtain ⟨s0,s1,s2,s3,s4,s5,s6,s7,s8,s9⟩:=hS; go_simp)⟩) hH ?_
 simp only [Act.put,List.setIfInBounds_toArray,List.set_cons_zero,List.set_cons_succ]
 refine g_take (i:=1) (v:=.agg #[.int .i64 n.k,.string n.t,.string n.v,.slice A n.kids.length c]) (by rfl) (by kernel_rfl) (by kernel_rfl) (by kernel_rfl) (by kernel_rfl) (fun _ _ _ h => pan_put h) (Or.inl ⟨by kernel_rfl,fun W hS => (by obtain ⟨s0,s1,s2,s3,s4,s5,s6,s7,s8,s9⟩:=hS; go_simp)⟩) hH ?_
 simp only [Act.put,List.setIfInBounds_toArray,List.set_cons_zero,List.set_cons_succ]
 refine g_take (i:=2) (v:=.pointer (some ⟨b2,3,none⟩)) (by rfl) (by kernel_rfl) (by kernel_rfl) (by kernel_rfl) (by kernel_rfl) (fun _ _ _ h => pan_put h) (Or.inl ⟨by kernel_rfl,fun W hS => (by obtain ⟨s0,s1,s2,s3,s4,s5,s6,s7,s8,s9⟩:=hS; go_simp)⟩) hH ?_
 simp only [Act.put,List.setIfInBounds_toArray,List.set_cons_zero,List.set_cons_succ]
 refine g_take (i:=3) (v:=.slice (some ⟨b,o,none⟩) RL rc) (by rfl) (by kernel_rfl) (by kernel_rfl) (by kernel_rfl) (by kernel_rfl) (fun _ _ _ h => pan_put h) (Or.inl ⟨by kernel_rfl,fun W hS => (by obtain ⟨s0,s1,s2,s3,s4,s5,s6,s7,s8,s9⟩:=hS; go_simp)⟩) hH ?_
 simp only [Act.put,List.setIfInBounds_toArray,List.set_cons_zero,List.set_cons_succ]
 refine g_take (i:=4) (v:=.pointer (some ⟨b,o,none⟩)) (by rfl) (by kernel_rfl) (by kernel_rfl) (by kernel_rfl) (by kernel_rfl) (fun _ _ _ h => pan_put h) (Or.inl ⟨by kernel_rfl,fun W hS => (by obtain ⟨s0,s1,s2,s3,s4,s5,s6,s7,s8,s9⟩:=hS; go_simp)⟩) hH ?_
 simp only [Act.put,List.setIfInBounds_toArray,List.set_cons_zero,List.set_cons_succ]
 refine g_take (i:=5) (v:=.agg #[.int .i64 fst.k,.string fst.t,.string fst.v,.slice B fst.kids.length cB]) (by rfl) (by kernel_rfl) (by kernel_rfl) (by kernel_rfl) (by kernel_rfl) (fun _ _ _ h => pan_put h) (Or.inl ⟨by kernel_rfl,fun W hS => (by obtain ⟨s0,s1,s2,s3,s4,s5,s6,s7,s8,s9⟩:=hS; go_simp)⟩) hH ?_
 simp only [Act.put,List.setIfInBounds_toArray,List.set_cons_zero,List.set_cons_succ]
 refine g_one (i:=6) (by kernel_rfl) (by rfl) (fun K hK => ?_)
 go_simp
 refine (hIs W0.drew (below_drew (Below.refl _ _))).mono ?_
 rintro e w1 ⟨rfl,hb1⟩
 have hb2 : Below W0.heap.size W0 w1:=(below_drew (Below.refl _ _)).trans hb1
 refine hK.out _ _ (fun _ => cells w1 hb2) (fun _ => ?_)
 clear hK K hIs hH hb1
 cases hrow : rowB n fst with
 | false =>
  rw [hrow] at HRE
  have HRE2:=Lib.hid (HRE.out rfl)
  clear hrow HK HRE
  refine g_one (i:=7) (by kernel_rfl) (by rfl) (fun K hK => ?_)
  go_simp
  refine hK.out _ _ (fun _ => cells w1 hb2) (fun _ => ?_)
  clear hK K
  refine g_one (i:=8) (by kernel_rfl) (by rfl) (fun K hK => ?_)
  go_simp
  refine (hRy w1 hb2).mono ?_
  rintro e w2 ⟨u,rfl,ho,hb⟩
  exact .inr ⟨_,rfl,HRE2.out w1 w2 u hb2 ho hb,rfl⟩
 | true =>
  rw [hrow] at HK
  have HK2:=Lib.hid (HK.out rfl)
  clear hrow HK HRE hRy
  refine g_one (i:=7) (by kernel_rfl) (by rfl) (fun K hK => ?_)
  go_simp
  refine hK.out _ _ (fun _ => cells w1 hb2) (fun _ => ?_)
  clear hK K
  refine g_one (i:=8) (by kernel_rfl) (by rfl) (fun K hK => ?_)
  go_simp
  refine (refuse_no s w1).mono ?_
  rintro e w2 ⟨rfl,rfl⟩
  refine hK.out _ _ (fun _ => cells w2 hb2) (fun _ => ?_)
  clear hK K
  refine g_done (by kernel_rfl) (.inl ⟨by first | rfl | trivial,?_⟩) _
  obtain ⟨s0,s1,s2,s3,s4,s5,s6,s7,s8,s9⟩:=cells w2 hb2
  have hK3:=HK2.out w2 hb2
  clear cells HK2 hb2 s6 s7 s8 s9
  go_wp2_with fail
  refine hK3.mono ?_
  intro e w3 h2
  rcases h2.cases_ with ⟨_,rfl,h3⟩ | ⟨u,rfl,h3⟩
  ·clear h2 hK3
   go_wp2
   go_end0
   exact h3
  ·exact ⟨rfl,h3⟩
set_option maxHeartbeats 4000000 in
theorem delim_vis (n : Nd) (hg : n.k = 5 -> ∀ r ∈ n.kids,∀ f ∈ r.kids,∀ m ∈ f.kids,m.k = 4 -> m.kids = []) : VisAt 51 #[] .dl0 n:=by
 intro s path g A c w hi hA hlen
 by_cases hk : n.k = 5
 case neg =>
  rw [srN_bad .dl0 n (by simp [badS,hk])]
  exact delim_no n hk s path g A c w hi
 case pos =>
  rw [srN_good .dl0 n (by simp [badS,hk])]
  have al : Below w.heap.size w ((w.alloc (.cells #[.pointer (some ⟨s,0,none⟩)] 51)).alloc (.cells #[.int .i64 n.k,.string n.t,.string n.v,.slice A n.kids.length c] 24)):=((Below.refl _ _).alloc (Nat.le_refl _) _).alloc (by simp) _
  have b1:=(Bes.new hi 51 #[.pointer (some ⟨s,0,none⟩)]).below (al_nd _ #[.int .i64 n.k,.string n.t,.string n.v,.slice A n.kids.length c])
  have b2:=Bes.new (hi.below ((Below.refl _ _).alloc (Nat.le_refl _) (.cells #[.pointer (some ⟨s,0,none⟩)] 51))) 24 #[.int .i64 n.k,.string n.t,.string n.v,.slice A n.kids.length c]
  rw [World.size_alloc] at b2
  have hK:=kids_vis .dl0 s path g n A c _ (hi.below al) (hA.lowb hi al) hlen 90 #[] #[.pointer (some ⟨w.heap.size,0,none⟩),.pointer (some ⟨w.heap.size + 1,0,none⟩)] (fun _ _ => rfl) (fun j h w1 g1 B cB k1 k2 k3 k4 => by
   have:=d1_vis n (n.kids.getD j dNd) (hg hk _ (by rw [getDn h]; exact List.getElem_mem h)) (by omega) s _ g1 w.heap.size (w.heap.size + 1) A B c cB w1 k1 ((hA.lowb hi al).lows (hi.below al) k2) k3 k4 (b1.fr k2) (b2.fr k2)
   simpa [nextS] using this)
  have s0:=sbox' b1
  obtain ⟨x0,x1,x2,x3⟩:=nbox' b2
  have HI:=Lib.hid hi
  have HF : Hid (FrS s g w _ g):=Lib.hid (FrS.of_below al)
  have hR:=refuse_no s
  obtain ⟨k,t,v,l⟩:=n
  obtain rfl : k = 5:=hk
  unfold ndVal at hK ⊢
  simp only [Nd.k,Nd.t,Nd.v,Nd.kids] at hK x0 x1 x2 x3 HF ⊢
  clear hi hA al b1 b2 hg
  simp only [Array.append_empty]
  go_enter Tryz.func51,Tryz.ntmps51
  go_wp2_with fail
  refine (hR _).mono ?_
  rintro e w1 ⟨rfl,rfl⟩
  clear hR
  go_wp2_with fail
  refine hK.mono ?_
  intro e w1 h
  have h2:=VPost.pre HI.out HF.out h
  rcases h2.cases_ with ⟨_,rfl,h3⟩ | ⟨u,rfl,h3⟩
  ·clear h h2 hK
   go_wp2
   go_end0
   exact h3
  ·exact ⟨rfl,h3⟩
structure FrD (s d : Nat) (g : Option Nat) (w w' : World) (g' : Option Nat) : Prop where
 os : w'.os = w.os
 tape : w'.tape = w.tape
 output : w'.output = w.output
 size : w.heap.size <= w'.heap.size
 block : ∀ k,k < w.heap.size -> k ≠ s -> k ≠ d -> some k ≠ g -> w'.heap[k]? = w.heap[k]?
 own : g' = g \/ ∀ q,g' = some q -> w.heap.size <= q
theorem FrD.trans {s d : Nat} {g g1 g2 : Option Nat} {w w1 w2 : World} (h : FrD s d g w w1 g1) (k : FrD s d g1 w1 w2 g2) : FrD s d g w w2 g2:=by
 refine ⟨k.os.trans h.os,k.tape.trans h.tape,k.output.trans h.output,Nat.le_trans h.size k.size,fun i hi hs hd hg => ?_,?_⟩
 ·refine (k.block i (Nat.lt_of_lt_of_le hi h.size) hs hd ?_).trans (h.block i hi hs hd hg)
  rcases h.own with e | e
  ·rw [e]; exact hg
  ·intro he
   have:=e i he.symm
   omega
 ·rcases k.own with e | e
  ·rw [e]; exact h.own
  ·exact .inr fun q hq => Nat.le_trans h.size (e q hq)
theorem FrS.deep {s d : Nat} {g g' : Option Nat} {w w' : World} (h : FrS s g w w' g') : FrD s d g w w' g':=⟨h.os,h.tape,h.output,h.size,fun k hk hs _ hg => h.block k hk hs hg,h.own⟩
theorem FrD.of_below {s d : Nat} {g : Option Nat} {w w' : World} (h : Below w.heap.size w w') : FrD s d g w w' g:=(FrS.of_below h).deep
theorem FrD.low {s d : Nat} {g g' : Option Nat} {w w' : World} {path : List Nat} (h : FrD s d g w w' g') (hi : SI s w path g) (hds : s < d) : Below s w w' :=
 ⟨h.os,h.tape,h.output,h.size,fun k hk => h.block k (Nat.lt_trans hk hi.lt) (by omega) (by omega) (fun e => by have:=(hi.own k e.symm).1; omega)⟩
theorem FrD.shut {s d : Nat} {g g' : Option Nat} {w w0 w' : World} (h : FrD s d g w0 w' g') (hb : Below w.heap.size w w0) (hd : w.heap.size <= d) : FrS s g w w' g':=by
 refine ⟨h.os.trans hb.os,h.tape.trans hb.tape,h.output.trans hb.output,Nat.le_trans hb.size h.size,fun k hk hs hg => (h.block k (Nat.lt_of_lt_of_le hk hb.size) hs (by omega) hg).trans (hb.block k hk),?_⟩
 rcases h.own with e | e
 ·exact .inl e
 ·exact .inr fun q hq => Nat.le_trans hb.size (e q hq)
theorem Bes.frd {s d : Nat} {g g' : Option Nat} {w w' : World} {k : Nat} {t : TypeId} {cs : Array Value} (h : Bes s g w k t cs) (hk : k ≠ d) (f : FrD s d g w w' g') : Bes s g' w' k t cs:=by
 refine ⟨(f.block k h.1.lt h.2.1 hk h.2.2).trans h.1,h.2.1,?_⟩
 rcases f.own with e | e
 ·rw [e]; exact h.2.2
 ·intro he
  have:=e k he.symm
  have:=h.1.lt
  omega
def DPost (s d : Nat) (path : List Nat) (g : Option Nat) (w : World) (r : Option (List Nat)) (b : Bool) (e : Ending) (w' : World) : Prop :=
 (r = none /\ e = .returned (.tuple #[]) /\ ∃ g',SI s w' path g' /\ FrD s d g w w' g' /\ Bes s g' w' d 4 #[.bool b]) \/
 (∃ q v,r = some q /\ e = .panicked (foundP v) /\ ORow w' (s + 1) 3 v (pV (path ++ q)) /\ Below s w w')
set_option maxHeartbeats 4000000 in
theorem kids_deep (s d : Nat) (hds : s < d) (dp : Nat -> Bool) (path : List Nat) (gr : Option Nat) (k : Int) (t v : ByteArray) (l : List Nd) (A : Option Addr) (c : Nat) (w : World) (hi : SI s w path gr) (hd : Bes s gr w d 4 #[.bool (dp 0)]) (hA : NAt (fun b _ => b < s) w (.mk k t v l) A c) (hlen : path.length <= 100000) (hll : l.length <= 1000000)
 (g : FuncId) (first cap : Array Value) (hef : ∀ args w,(callFunc g args).run Tryz.prog w = .ok (.enter g args) w) (R : Nat -> Nd -> Option (List Nat)) (rest : Nat -> Option (List Nat))
 (hrest : ∀ j (h : j < l.length),rest j = match R j (l.getD j dNd) with | some q => some (j :: q) | none => rest (j + 1)) (hend : rest l.length = none)
 (hv : ∀ j (h : j < l.length) w1 g1 B cB,SI s w1 (path ++ [j]) g1 -> FrD s d gr w w1 g1 -> Bes s g1 w1 d 4 #[.bool (dp j)] -> NAt (fun b _ => b < s) w1 (l.getD j dNd) B cB ->
  Calls Tryz.prog g (first.push (.agg #[.int .i64 (l.getD j dNd).k,.string (l.getD j dNd).t,.string (l.getD j dNd).v,.slice B (l.getD j dNd).kids.length cB]) ++ cap) w1 (DPost s d (path ++ [j]) g1 w1 (R j (l.getD j dNd)) (dp (j + 1)))) :
 Calls Tryz.prog 84 #[.pointer (some ⟨s,0,none⟩),.agg #[.int .i64 k,.string t,.string v,.slice A l.length c],.func (.func g) first cap] w (DPost s d path gr w (rest 0) (dp l.length)):=by
 obtain ⟨hlc,hcm,_⟩:=(NAt.def_ _ _ _).1 hA
 simp only [Nd.kids] at hlc
 have hcm2 : c <= 9223372036854775807:=by simpa [maxLen] using hcm
 have bX:=Bes.new hi 24 #[.int .i64 k,.string t,.string v,.slice A l.length c]
 have alk:=al_nd w #[.int .i64 k,.string t,.string v,.slice A l.length c]
 obtain ⟨W0,hW0⟩ : ∃ W0,w.alloc (.cells #[.int .i64 k,.string t,.string v,.slice A l.length c] 24) = W0:=⟨_,rfl⟩
 rw [hW0] at bX alk
 have HI:=Lib.hid (hi.below alk)
 have HF : Hid (FrD s d gr w W0 gr):=Lib.hid (FrD.of_below alk)
 have HA:=Lib.hid hA
 have HV:=Lib.hid hv
 have HR:=Lib.hid hrest
 have HE:=Lib.hid hend
 have HI0:=Lib.hid hi
 have HD:=Lib.hid (hd.below alk)
 have x3 : W0.cell? ⟨w.heap.size,3,none⟩ = some (.slice A l.length c):=bX.1.cell 3
 have HFIN : Hid (∀ r,r = rest 0 -> r = rest 0):=Lib.hid fun r h => h
 obtain ⟨RR,hRR⟩ : ∃ RR,rest 0 = RR:=⟨_,rfl⟩
 rw [hRR]
 have HRR:=Lib.hid hRR
 clear hi hd hA hv hrest hend bX alk hRR HFIN
 go_enter Tryz.func84,Tryz.ntmps84
 go_wp2
 clear hW0 x3
 go_loopw [11] (fun i wr => ∃ (j : Nat) (g1 : Option Nat),j <= l.length /\ i = .int .i64 (j : Int) /\ Hid (SI s wr path g1) /\ Hid (FrD s d gr w wr g1) /\ Hid (rest j = RR) /\ Hid (Bes s g1 wr d 4 #[.bool (dp j)])) (fun i _ => l.length - (intOf i).toNat)
 case atStart => exact ⟨0,gr,Nat.zero_le _,rfl,HI,HF,HRR,HD⟩
 case round =>
  obtain ⟨j,g1,hj,rfl,HI1,HF1,HRJ,HD1⟩:=hrel
  have hlow:=HF1.out.low HI0.out hds
  by_cases hlt : j < l.length
  case pos =>
   have hA':=HA.out.low (w':=wr) (fun q hq => hlow.block q hq)
   obtain ⟨_,_,hkids⟩:=(NAt.def_ _ _ _).1 hA'
   simp only [Nd.kids] at hkids
   obtain ⟨b,o,rfl,hbo,hkid⟩:=hkids (by omega)
   have hk1:=hkid j hlt
   rw [<- getDn hlt] at hk1
   obtain ⟨B,cB,q0,q1,q2,q3,hn1⟩:=hk1
   have hjc : j < c:=by omega
   have HVJ:=Lib.hid (HV.out j hlt)
   have HRN:=Lib.hid ((HR.out j hlt).symm.trans HRJ.out)
   clear hkid hkids hA' HV HR HRJ HE HI HF HD
   generalize l.getD j dNd = kd at *
   have bK:=Bes.new HI1.out 24 #[.int .i64 kd.k,.string kd.t,.string kd.v,.slice B kd.kids.length cB]
   have al1:=al_nd wr #[.int .i64 kd.k,.string kd.t,.string kd.v,.slice B kd.kids.length cB]
   obtain ⟨W1,hW1⟩ : ∃ W1,wr.alloc (.cells #[.int .i64 kd.k,.string kd.t,.string kd.v,.slice B kd.kids.length cB] 24) = W1:=⟨_,rfl⟩
   rw [hW1] at bK al1
   obtain ⟨v1,hb1,ho1,hg1⟩:=HI1.out.below al1
   have c0 : W1.cell? ⟨s,0,none⟩ = some v1:=hb1.cell 0
   have hso : some s ≠ v1.ownBlock:=ho1.not_own (Nat.lt_succ_self s)
   have hsb : s + 1 <= W1.heap.size:=hb1.lt
   have hF1 : FrD s d gr w W1 g1:=HF1.out.trans (FrD.of_below al1)
   have HNW:=Lib.hid (hn1.below al1)
   obtain ⟨bk,hbk⟩ : ∃ bk,wr.heap.size = bk:=⟨_,rfl⟩
   rw [hbk] at bK
   have bD1:=HD1.out.below al1
   clear al1 hn1 HD1
   go_wp2_with (first
    | (at_builtin; refine wp_app1 rfl _ _ 27 rfl (s + 1) 3 (.int .i64 0) 8 Tryz.underlying27 Tryz.info3 rfl v1 (pV path) (.int .i64 (j : Int)) rfl ho1 rfl 1 rfl (by rw [pV_len]; unfold maxLen; omega) (by rw [pV_len]; omega) hsb ?_; intro v2 w2 ho2 hgr2 how2; obtain ⟨A2,c2,rfl⟩:=ho2.shapeP (n:=path.length + 1) (by simp [pV]); have hb2:=hb1.grown hgr2 hso; have d0 : w2.cell? ⟨s,0,none⟩ = some v1:=hb2.cell 0; have f0:=hb2.frozen 0; have hlt2:=hb2.lt; have bK2:=bK.1.grown hgr2 (by rw [hg1]; exact bK.2.2); have bD2:=bD1.1.grown hgr2 (by rw [hg1]; exact bD1.2.2); have bD3:=bD2.far (p:=⟨s,0,none⟩) bD1.2.1 (.slice A2 (path.length + 1) c2); have bK3:=bK2.far (p:=⟨s,0,none⟩) bK.2.1 (.slice A2 (path.length + 1) c2); obtain ⟨z0,z1,z2,z3⟩:=nbox bK3))
   have hI3 : SI s (w2.setCell ⟨s,0,none⟩ (.slice A2 (path.length + 1) c2)) (path ++ [j]) (Value.slice A2 (path.length + 1) c2).ownBlock:=⟨_,hb2.set_ 0 _,by rw [pV_snoc]; exact ORow.set_far ho2 (Nat.lt_succ_self s) _,rfl⟩
   have hF3 : FrD s d g1 W1 (w2.setCell ⟨s,0,none⟩ (.slice A2 (path.length + 1) c2)) (Value.slice A2 (path.length + 1) c2).ownBlock:=by
    refine ⟨hgr2.os,hgr2.tape,hgr2.output,by simpa [World.setCell] using hgr2.size,fun i hi hs _ hg => (Below.heap_setCell w2 ⟨s,0,none⟩ _ i hs).trans (hgr2.block i hi (by rw [hg1]; exact hg)),?_⟩
    rcases how2 with h | h
    ·exact .inl (h.trans hg1)
    ·exact .inr fun q hq => by rw [h] at hq; injection hq with hq; omega
   have hD3 : Bes s (Value.slice A2 (path.length + 1) c2).ownBlock (w2.setCell ⟨s,0,none⟩ (.slice A2 (path.length + 1) c2)) d 4 #[.bool (dp j)]:=by
    refine ⟨bD3,bD1.2.1,?_⟩
    rcases how2 with h | h
    ·rw [h,hg1]; exact bD1.2.2
    ·rw [h]
     intro he
     injection he with he
     have:=bD1.1.lt
     omega
   have hFF:=hF1.trans hF3
   have hl3:=hFF.low HI0.out hds
   have hC:=HVJ.out _ _ B cB hI3 hFF hD3 (HNW.out.low (fun q hq => (hF3.low ⟨v1,hb1,ho1,hg1⟩ hds).block q hq))
   refine hC.mono ?_
   have HFF:=Lib.hid hFF
   have HL3:=Lib.hid hl3
   clear hC hI3 hF3 hD3 bD1 bD2 bD3 hFF hl3 z0 z1 z2 z3 bK bK2 bK3 d0 f0 hlt2 hb2 hgr2 how2 ho2 c0 hb1 ho1 hg1 hso hsb hF1 HNW HVJ q0 q1 q2 q3 hlow HI1 HF1 hW1
   rintro e w5 (⟨hr,rfl,g5,hI5,hF5,hD5⟩ | ⟨q,v5,hr,rfl,ho5,hb5⟩)
   case inr =>
    rw [hr] at HRN
    exact ⟨rfl,.inr ⟨j :: q,v5,HRN.out.symm,rfl,by simpa [List.append_assoc] using ho5,HL3.out.trans hb5⟩⟩
   case inl =>
    rw [hr] at HRN
    have HRN2 : Hid (rest (j + 1) = RR):=Lib.hid HRN.out
    have HF5:=Lib.hid (HFF.out.trans hF5)
    clear HRN HFF HL3 hF5
    obtain ⟨v5,hb5,ho5,hg5⟩:=hI5
    rw [pV_snoc] at ho5
    obtain ⟨A5,c5,rfl⟩:=ho5.shapeP (n:=path.length + 1) (by simp [pV])
    obtain ⟨q5,hq5,hle5⟩ : ∃ q5,A5 = some ⟨q5,0,none⟩ /\ path.length + 1 <= c5:=by
     rcases ho5.form with ⟨hv,hx⟩ | ⟨q5,cap,hv,_,_,hle,_⟩
     ·simp at hx
     ·injection hv with h1 h2 h3
      subst h3
      refine ⟨q5,h1,?_⟩
      simpa [pV] using hle
    subst hq5
    have e0 : w5.cell? ⟨s,0,none⟩ = some (.slice (some ⟨q5,0,none⟩) (path.length + 1) c5):=hb5.cell 0
    have fe:=hb5.frozen 0
    have hlt5:=hb5.lt
    have hcut:=ho5.cut
    rw [pV_len] at hcut
    have hI6 : SI s (w5.setCell ⟨s,0,none⟩ (.slice (some ⟨q5,0,none⟩) path.length c5)) path g5:=⟨_,hb5.set_ 0 _,ORow.set_far hcut (Nat.lt_succ_self s) _,hg5⟩
    have hF6 : FrD s d g5 w5 (w5.setCell ⟨s,0,none⟩ (.slice (some ⟨q5,0,none⟩) path.length c5)) g5:=⟨rfl,rfl,rfl,by simp [World.setCell],fun i _ hs _ _ => Below.heap_setCell w5 ⟨s,0,none⟩ _ i hs,.inl rfl⟩
    have hD6 : Bes s g5 (w5.setCell ⟨s,0,none⟩ (.slice (some ⟨q5,0,none⟩) path.length c5)) d 4 #[.bool (dp (j + 1))]:=⟨hD5.1.far (p:=⟨s,0,none⟩) hD5.2.1 _,hD5.2⟩
    have HD6:=Lib.hid hD6
    have HI6:=Lib.hid hI6
    have HF6:=Lib.hid (HF5.out.trans hF6)
    clear hI6 hF6 hD6 hD5 hcut hb5 ho5 hg5
    go_wp2
    go_region
    go_wp2
    go_roundw
    case rel => exact ⟨j + 1,g5,by omega,by go_num,Lib.hid (HI6.out.below (below_drew (Below.refl _ _))),Lib.hid (HF6.out.trans (FrD.of_below (below_drew (Below.refl _ _)))),HRN2,Lib.hid (HD6.out.below (below_drew (Below.refl _ _)))⟩
    case measure => first | (simp [intOf]; done) | (simp [intOf]; omega)
  case neg =>
   obtain rfl : j = l.length:=by omega
   have HN : Hid (RR = none):=Lib.hid (HRJ.out.symm.trans HE.out)
   clear HRJ HE HI HF HV HR HD
   go_wp2
   go_end0
   exact .inl ⟨HN.out,rfl,g1,HI1.out,HF1.out,HD1.out⟩
theorem nomap_any (n : Nd) : AskAt 170 (fun m => !decide (m.k = 7)) n:=by
 intro S A c w hA
 have al:=al_nd w #[.int .i64 n.k,.string n.t,.string n.v,.slice A n.kids.length c]
 show Calls _ _ _ _ fun e w' => e = .returned (.bool (!decide (n.k = 7))) /\ Below w.heap.size w w'
 by_cases hk : n.k = 7
 ·rw [decide_eq_true hk,hk]
  rw [hk] at al
  go_enter Tryz.func170,Tryz.ntmps170
  go_wp2
  go_ret
  exact ⟨rfl,al⟩
 ·rw [decide_eq_false hk]
  have z1:=ibeq hk
  have z2:=ibne hk
  generalize n.k = k at *
  clear hk
  go_enter Tryz.func170,Tryz.ntmps170
  go_wp2
  go_ret
  exact ⟨rfl,al⟩
theorem rows_eq (l : List Nd) : (l.all fun m => decide (m.k = 7)) = !(l.any fun m => !decide (m.k = 7)):=by
 induction l with
 | nil => rfl
 | cons a r ih => simp only [List.all_cons,List.any_cons,ih,Bool.not_or,Bool.not_not]
set_option maxHeartbeats 4000000 in
theorem isrows_any (n : Nd) : AskAt 154 rowsB n:=by
 intro S A c w hA
 obtain ⟨k,t,v,l⟩:=n
 have al:=al_nd w #[.int .i64 k,.string t,.string v,.slice A l.length c]
 have hC:=containsf_any 170 (fun _ _ => rfl) (fun m => !decide (m.k = 7)) l (fun m _ => nomap_any m) S k t v A c _ (hA.below al)
 have hrb : rowsB (.mk k t v l) = (decide (k = 5) && (decide (0 < l.length) && !(l.any fun m => !decide (m.k = 7)))):=by rw [<- rows_eq]; rfl
 rw [hrb]
 generalize (l.any fun m => !decide (m.k = 7)) = R at *
 simp only [Nd.k,Nd.t,Nd.v,Nd.kids]
 have hcx : l.length <= 9223372036854775807:=by
  obtain ⟨h1,h2,_⟩:=(NAt.def_ _ _ _).1 hA
  simp only [Nd.kids,maxLen] at h1 h2
  omega
 clear hA hrb
 by_cases h5 : k = 5
 case neg =>
  rw [decide_eq_false h5,Bool.false_and]
  have z1:=ibeq h5
  clear hC h5
  go_enter Tryz.func154,Tryz.ntmps154
  go_wp2
  go_ret
  exact ⟨rfl,al⟩
 subst h5
 rw [decide_eq_true rfl,Bool.true_and]
 by_cases h0 : 0 < l.length
 case neg =>
  rw [decide_eq_false h0,Bool.false_and]
  clear hC
  go_enter Tryz.func154,Tryz.ntmps154
  go_wp2
  go_ret
  exact ⟨rfl,al⟩
 rw [decide_eq_true h0,Bool.true_and]
 go_enter Tryz.func154,Tryz.ntmps154
 go_wp2_with fail
 refine hC.mono ?_
 rintro e w1 ⟨rfl,hb1⟩
 have HB:=Lib.hid (al.trans (hb1.mono al.size))
 clear hC hb1 al
 go_wp2
 go_ret
 exact ⟨rfl,HB.out⟩
theorem brk_any (n : Nd) (S : Nat -> Nat -> Prop) (A : Option Addr) (c : Nat) (w : World) (hA : NAt S w n A c) :
 Calls Tryz.prog 121 #[ndVal n A c] w fun e w' => e = .returned (.int .i64 (brk n : Int)) /\ Below w.heap.size w w':=by
 have al:=al_nd w #[.int .i64 n.k,.string n.t,.string n.v,.slice A n.kids.length c]
 have hR:=isrows_any n S A c _ (hA.below al)
 unfold ndVal brk
 by_cases hk : n.k = 7
 ·rw [if_pos hk,hk]
  rw [hk] at al
  clear hR hA hk
  go_enter Tryz.func121,Tryz.ntmps121
  go_wp2
  go_ret
  exact ⟨rfl,al⟩
 ·rw [if_neg hk]
  have z1:=ibeq hk
  cases hr : rowsB n with
  | true =>
   rw [hr] at hR
   rw [if_pos rfl]
   generalize n.k = k at *
   clear hA hk hr
   go_enter Tryz.func121,Tryz.ntmps121
   go_wp2_with fail
   refine hR.mono ?_
   rintro e w1 ⟨rfl,hb1⟩
   have HB:=Lib.hid (al.trans (hb1.mono al.size))
   clear hR hb1 al
   go_wp2
   go_ret
   exact ⟨rfl,HB.out⟩
  | false =>
   rw [hr] at hR
   rw [if_neg (by decide)]
   generalize n.k = k at *
   clear hA hk hr
   go_enter Tryz.func121,Tryz.ntmps121
   go_wp2_with fail
   refine hR.mono ?_
   rintro e w1 ⟨rfl,hb1⟩
   have HB:=Lib.hid (al.trans (hb1.mono al.size))
   clear hR hb1 al
   go_wp2
   go_ret
   exact ⟨rfl,HB.out⟩
theorem toolong_any (n : Nd) (A : Option Addr) (c : Nat) (w : World) (hA : NAt (fun b _ => b < w.heap.size) w n A c) (hs : smallT n) (hsh : shaped n = true) (hz : sizeN n <= 90000) :
 Calls Tryz.prog 124 #[ndVal n A c] w fun e w' => e = .returned (.bool (!elemN n && decide (160 < (rowN n).length))) /\ Below w.heap.size w w':=by
 have al:=al_nd w #[.int .i64 n.k,.string n.t,.string n.v,.slice A n.kids.length c]
 have bX:=Blk.new w 24 #[.int .i64 n.k,.string n.t,.string n.v,.slice A n.kids.length c]
 obtain ⟨W0,hW0⟩ : ∃ W0,w.alloc (.cells #[.int .i64 n.k,.string n.t,.string n.v,.slice A n.kids.length c] 24) = W0:=⟨_,rfl⟩
 rw [hW0] at al bX
 have hA1:=hA.upp al
 have hrl:=rowN_len n hs
 have hE:=elem_any n (fun b _ => b < W0.heap.size) A c W0 hA1
 have HF:=fun (W : World) (h : Below W0.heap.size W0 W) => form_any n W.heap.size (.slice none 0 0) [] A c W (hA1.upp h) hs hsh (ORow.nil _ _ _) (Nat.le_refl _) (by simp; omega)
 unfold FormPost at HF
 simp only [List.nil_append] at HF
 obtain ⟨x0,x1,x2,x3⟩:=nbox bX
 have BX:=Lib.hid bX
 unfold ndVal
 cases he : elemN n with
 | true =>
  rw [he] at hE
  rw [show (!true && decide (160 < (rowN n).length)) = false from rfl]
  clear HF hA hA1 he hrl
  go_enter Tryz.func124,Tryz.ntmps124
  go_wp2_with fail
  clear hW0
  refine hE.mono ?_
  rintro e w1 ⟨rfl,hb1⟩
  have HB:=Lib.hid (al.trans (hb1.mono al.size))
  clear hE hb1 al
  go_wp2
  go_ret
  exact ⟨rfl,HB.out⟩
 | false =>
  rw [he] at hE
  rw [show (!false && decide (160 < (rowN n).length)) = decide (160 < (rowN n).length) from rfl]
  generalize rowN n = RN at *
  have hrn : RN.length <= 100000000000:=by omega
  obtain ⟨D,hD⟩ : ∃ D,decide (160 < RN.length) = D:=⟨_,rfl⟩
  rw [hD]
  have HD:=Lib.hid hD
  clear hA hA1 he hrl hD
  go_enter Tryz.func124,Tryz.ntmps124
  go_wp2_with fail
  clear hW0
  refine hE.mono ?_
  rintro e w1 ⟨rfl,hb1⟩
  obtain ⟨x0,x1,x2,x3⟩:=nbox (BX.out.below hb1 BX.out.lt)
  have hF1:=HF w1 hb1
  have h1:=al.trans (hb1.mono al.size)
  clear hE hb1 al HF
  go_wp2_with fail
  refine hF1.mono ?_
  rintro e w2 ⟨v2,rfl,ho,hb2⟩
  obtain ⟨A1,c1,rfl⟩:=ho.shapeP (n:=RN.length) (by simp)
  have HB:=Lib.hid (h1.trans (hb2.mono h1.size))
  clear hF1 hb2 h1 ho
  go_wp2
  go_ret
  exact ⟨by rw [<- HD.out,show decide (160 < RN.length) = decide ((160 : Int) < RN.length) from decide_eq_decide.2 (by omega)] <;> rfl,HB.out⟩
set_option maxHeartbeats 4000000 in
theorem flat_vis (n : Nd) : VisAt 125 #[] .scl n:=by
 induction n using Nd.ind with
 | h k t v l ih =>
  intro s path g A c w hi hA hlen
  have al:=al_nd w #[.int .i64 k,.string t,.string v,.slice A l.length c]
  have hi1:=hi.below al
  have HF : Hid (FrS s g w _ g):=Lib.hid (FrS.of_below al)
  have HI:=Lib.hid hi
  obtain ⟨x0,x1,x2,x3⟩:=nbox (n:=.mk k t v l) (Blk.new w 24 #[.int .i64 k,.string t,.string v,.slice A l.length c])
  simp only [Nd.k,Nd.t,Nd.v,Nd.kids] at x0 x1 x2 x3
  have hbad : badS .scl (.mk k t v l) = (decide (k = 10) || decide (k = 1)):=rfl
  by_cases hk : k = 10
  case pos =>
   subst hk
   have hR:=refuse_yes s path g _ hi1
   have HE : Hid (∀ w1 v',ORow w1 (s + 1) 3 v' (pV path) -> Below _ _ w1 -> VPost s path g w (srN badS nextS (.mk 10 t v l) .scl) (.panicked (foundP v')) w1):=Lib.hid fun w1 v' ho h => refuse_end hi (by rw [hbad]; simp) al ho h
   generalize srN badS nextS (.mk 10 t v l) .scl = R at *
   clear ih hA hi hi1 hbad
   unfold ndVal
   simp only [Nd.k,Nd.t,Nd.v,Nd.kids]
   go_enter Tryz.func125,Tryz.ntmps125
   go_wp2_with fail
   refine hR.mono ?_
   rintro e w1 ⟨u,rfl,ho,hb⟩
   exact ⟨rfl,HE.out w1 u ho hb⟩
  have z1:=ibeq hk
  by_cases hk1 : k = 1
  case pos =>
   subst hk1
   have hR:=refuse_yes s path g _ hi1
   have HE : Hid (∀ w1 v',ORow w1 (s + 1) 3 v' (pV path) -> Below _ _ w1 -> VPost s path g w (srN badS nextS (.mk 1 t v l) .scl) (.panicked (foundP v')) w1):=Lib.hid fun w1 v' ho h => refuse_end hi (by rw [hbad]; simp) al ho h
   generalize srN badS nextS (.mk 1 t v l) .scl = R at *
   clear ih hA hi hi1 hbad hk z1
   unfold ndVal
   simp only [Nd.k,Nd.t,Nd.v,Nd.kids]
   go_enter Tryz.func125,Tryz.ntmps125
   go_wp2_with fail
   refine hR.mono ?_
   rintro e w1 ⟨u,rfl,ho,hb⟩
   exact ⟨rfl,HE.out w1 u ho hb⟩
  case neg =>
   rw [srN_good _ _ (by rw [hbad,decide_eq_false hk,decide_eq_false hk1]; rfl)]
   have z2:=ibeq hk1
   have hR:=refuse_no s
   have hK:=kids_vis .scl s path g (.mk k t v l) A c _ hi1 (hA.low (fun q hq => al.block q (Nat.lt_trans hq hi.lt))) hlen 125 #[.pointer (some ⟨s,0,none⟩)] #[] (fun _ _ => rfl) (fun j h w1 g1 B cB h1 h2 h3 h4 => by
    have:=ih _ (List.getElem_mem h) s _ g1 B cB w1 h1 (by rw [<- getDn h]; exact h3) (by rw [<- getDn h]; exact h4)
    rw [<- getDn h] at this
    rw [vis_app]
    exact this)
   unfold ndVal at hK ⊢
   simp only [Nd.k,Nd.t,Nd.v,Nd.kids] at hK ⊢
   clear ih hA hi hi1 hk hk1 hbad
   go_enter Tryz.func125,Tryz.ntmps125
   go_wp2_with fail
   refine (hR _).mono ?_
   rintro e w1 ⟨rfl,rfl⟩
   clear hR
   go_wp2_with fail
   refine hK.mono ?_
   intro e w1 h
   have h2:=VPost.pre HI.out HF.out h
   rcases h2.cases_ with ⟨_,rfl,h3⟩ | ⟨u,rfl,h3⟩
   ·clear h h2 hK
    go_wp2
    go_end0
    exact h3
   ·exact ⟨rfl,h3⟩
end Go.Proofs.YtbnppjmmlfncmaaGreatDoor
