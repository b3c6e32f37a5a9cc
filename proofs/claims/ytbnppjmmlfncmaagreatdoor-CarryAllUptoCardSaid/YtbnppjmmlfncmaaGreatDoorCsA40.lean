/-
  carry: the search of outline.
  carry: the search from a root, whatever the syntax. (printed by mkCyXf.py)
-/
import Derived.Test.YtbnppjmmlfncmaaGreatDoorCsA33
import Derived.Test.YtbnppjmmlfncmaaGreatDoorCsA15
import Derived.Test.YtbnppjmmlfncmaaGreatDoorCsA28
import Derived.Test.YtbnppjmmlfncmaaGreatDoorCsA39
set_option maxRecDepth 100000
set_option linter.unusedSimpArgs false
set_option linter.unusedVariables false
namespace Go.Proofs.YtbnppjmmlfncmaaGreatDoor
open Go.RowKit Go.Maps
theorem linelen_any (n : Nd) (a : Nat) (ha : a <= 1000000000000) (A : Option Addr) (c : Nat) (w : World) (hA : NAt (fun b _ => b < w.heap.size) w n A c) (hs : smallT n) (hsh : shaped n = true) (hz : sizeN n <= 90000) :
 Calls Tryz.prog 86 #[ndVal n A c,.int .i64 (a : Int)] w fun e w' => e = .returned (.int .i64 (lineN n a)) /\ Below w.heap.size w w':=by
 have al:=al_nd w #[.int .i64 n.k,.string n.t,.string n.v,.slice A n.kids.length c]
 have hrl:=rowN_len n hs
 have HF:=form_any n (w.heap.size + 1) (.slice none 0 0) [] A c _ ((hA.upp al).weaken fun b _ h => by simpa using h) hs hsh (ORow.nil _ _ _) (by simp) (by simp; omega)
 unfold FormPost at HF
 rw [List.nil_append] at HF
 obtain ⟨x0,x1,x2,x3⟩:=nbox (Blk.new w 24 #[.int .i64 n.k,.string n.t,.string n.v,.slice A n.kids.length c])
 have hkl : n.kids.length <= 1000000:=by
  obtain ⟨k,t,v,l⟩:=n
  have:=sizeL_len l
  simp only [sizeN] at hz
  simp only [Nd.kids]
  omega
 unfold ndVal lineN
 by_cases h0 : 0 < n.kids.length
 ·rw [if_pos h0]
  clear HF hA
  go_enter Tryz.func86,Tryz.ntmps86
  go_wp2
  go_ret
  exact ⟨rfl,al⟩
 ·rw [if_neg h0]
  generalize rowN n = RN at *
  have hrn : RN.length <= 100000000000:=by omega
  clear hrl
  go_enter Tryz.func86,Tryz.ntmps86
  go_wp2_with fail
  refine HF.mono ?_
  rintro e w1 ⟨v1,rfl,ho,hb⟩
  obtain ⟨A1,c1,rfl⟩:=ho.shapeP (n:=RN.length) (by simp)
  have HB:=Lib.hid (al.trans (hb.mono (by simp)))
  clear HF ho hb al
  go_wp2
  go_ret
  exact ⟨rfl,HB.out⟩
def OutlAt (n : Nd) : Prop:=∀ (a ind : Nat),a <= 1000000000000 -> ind + 2 * sizeN n <= 1000000000 -> smallT n -> shaped n = true -> sizeN n <= 90000 -> VisAt 49 #[.int .i64 (a : Int),.int .i64 (ind : Int)] (.ot a ind) n
set_option maxHeartbeats 8000000 in
theorem outl2_vis (n m : Nd) (hm : OutlAt m) (ind : Nat) (hind : ind + 2 * sizeN m + 2 <= 1000000000) (hnt : n.t.size <= 1048576) (hms : smallT m) (hmsh : shaped m = true) (hmz : sizeN m <= 90000) (s : Nat) (path : List Nat) (g : Option Nat) (b1 b2 b3 : Nat) (NA A : Option Addr) (nc c : Nat) (w : World) (hi : SI s w path g) (hA : NAt (fun b _ => b < s) w m A c) (hlen : path.length + sizeN m <= 100000)
 (h1 : Bes s g w b1 51 #[.pointer (some ⟨s,0,none⟩)]) (h2 : Bes s g w b2 3 #[.int .i64 (ind : Int)]) (h3 : Bes s g w b3 24 #[.int .i64 n.k,.string n.t,.string n.v,.slice NA n.kids.length nc]) :
 Calls Tryz.prog 88 #[ndVal m A c,.pointer (some ⟨b1,0,none⟩),.pointer (some ⟨b2,0,none⟩),.pointer (some ⟨b3,0,none⟩)] w (VPost s path g w (srN badS nextS m (.ot (ind + wordN n + 2) (ind + 2)))):=by
 have al:=al_nd w #[.int .i64 m.k,.string m.t,.string m.v,.slice A m.kids.length c]
 have bX:=Bes.new hi 24 #[.int .i64 m.k,.string m.t,.string m.v,.slice A m.kids.length c]
 obtain ⟨W0,hW0⟩ : ∃ W0,w.alloc (.cells #[.int .i64 m.k,.string m.t,.string m.v,.slice A m.kids.length c] 24) = W0:=⟨_,rfl⟩
 rw [hW0] at al bX
 have cells : ∀ W,Below W0.heap.size W0 W -> W.cell? ⟨b1,0,none⟩ = some (.pointer (some ⟨s,0,none⟩)) /\ W.cell? ⟨w.heap.size,0,none⟩ = some (.int .i64 m.k) /\ W.cell? ⟨w.heap.size,1,none⟩ = some (.string m.t) /\ W.cell? ⟨w.heap.size,2,none⟩ = some (.string m.v) /\ W.cell? ⟨w.heap.size,3,none⟩ = some (.slice A m.kids.length c) /\ W.cell? ⟨b2,0,none⟩ = some (.int .i64 (ind : Int)) /\ W.cell? ⟨b3,1,none⟩ = some (.string n.t):=fun W h => by
  have e1:=(h1.below al).below h
  have e2:=(h2.below al).below h
  have e3:=(h3.below al).below h
  obtain ⟨x0,x1,x2,x3⟩:=nbox' (bX.below h)
  exact ⟨sbox' e1,x0,x1,x2,x3,sbox' e2,(nbox' e3).2.1⟩
 have hwl:=wordL_len n.t.data.toList
 have htl : n.t.data.toList.length = n.t.size:=by simp
 have hW:=word1_any n.t W0.drew (by omega)
 have HO : Hid (∀ W,Below W0.heap.size W0 W -> Calls Tryz.prog 49 #[.pointer (some ⟨s,0,none⟩),.agg #[.int .i64 m.k,.string m.t,.string m.v,.slice A m.kids.length c],.int .i64 ((ind : Int) + (wordN n : Int) + 2),.int .i64 ((ind : Int) + 2)] W (VPost s path g w (srN badS nextS m (.ot (ind + wordN n + 2) (ind + 2))))):=Lib.hid fun W h0 => by
  have hw0:=al.trans (h0.mono al.size)
  have:=hm (ind + wordN n + 2) (ind + 2) (by unfold wordN; omega) (by omega) hms hmsh hmz s path g A c W (hi.below hw0) (hA.lowb hi hw0) hlen
  have e1 : ((ind + wordN n + 2 : Nat) : Int) = (ind : Int) + (wordN n : Int) + 2:=by omega
  have e2 : ((ind + 2 : Nat) : Int) = (ind : Int) + 2:=by omega
  rw [e1,e2] at this
  exact this.mono fun e w1 h => VPost.pre hi (FrS.of_below hw0) h
 have hwn : (wordL n.t.data.toList).length = wordN n:=rfl
 have hwb : wordN n <= 1048900:=by omega
 have hsz : (⟨(wordL n.t.data.toList).toArray⟩ : ByteArray).size = wordN n:=by simp [ByteArray.size,wordN]
 obtain ⟨X,hX⟩ : ∃ X : ByteArray,(⟨(wordL n.t.data.toList).toArray⟩ : ByteArray) = X:=⟨_,rfl⟩
 rw [hX] at hW hsz
 have hib : ind <= 1000000000:=by omega
 generalize wordN n = WN at *
 generalize srN badS nextS m (.ot (ind + WN + 2) (ind + 2)) = R at *
 clear hi hA bX h1 h2 h3 hm hms hmsh hmz hlen hwn hwl htl hX hind
 subst hsz
 unfold ndVal
 go_enter Tryz.func88,Tryz.ntmps88
 go_wp2
 clear hW0
 refine region_gp [11] (S:=(fun W => W.cell? ⟨b1,0,none⟩ = some (.pointer (some ⟨s,0,none⟩)) /\ W.cell? ⟨w.heap.size,0,none⟩ = some (.int .i64 m.k) /\ W.cell? ⟨w.heap.size,1,none⟩ = some (.string m.t) /\ W.cell? ⟨w.heap.size,2,none⟩ = some (.string m.v) /\ W.cell? ⟨w.heap.size,3,none⟩ = some (.slice A m.kids.length c) /\ W.cell? ⟨b2,0,none⟩ = some (.int .i64 (ind : Int)) /\ W.cell? ⟨b3,1,none⟩ = some (.string n.t))) (fun c w' => VPost s path g w R (.panicked c) w') (by kernel_rfl) (cells _ (below_drew (Below.refl _ _))) (fun c a' w' hd hR => ⟨hd,hR⟩) (fun hH => ?_)
 refine g_takeT 20 (i:=0) (v:=.pointer (some ⟨s,0,none⟩)) (by rfl) (by kernel_rfl) (by kernel_rfl) (by kernel_rfl) (by kernel_rfl) (by kernel_rfl) (fun _ _ _ h => pan_put h) (Or.inl ⟨by kernel_rfl,fun W hS => (by obtain ⟨s0,s1,s2,s3,s4,s5,s6⟩:=hS; go_simp)⟩) hH ?_
 simp only [Act.put,List.setIfInBounds_toArray,List.set_cons_zero,List.set_cons_succ]
 refine g_takeT 20 (i:=1) (v:=.agg #[.int .i64 m.k,.string m.t,.string m.v,.slice A m.kids.length c]) (by rfl) (by kernel_rfl) (by kernel_rfl) (by kernel_rfl) (by kernel_rfl) (by kernel_rfl) (fun _ _ _ h => pan_put h) (Or.inl ⟨by kernel_rfl,fun W hS => (by obtain ⟨s0,s1,s2,s3,s4,s5,s6⟩:=hS; go_simp)⟩) hH ?_
 simp only [Act.put,List.setIfInBounds_toArray,List.set_cons_zero,List.set_cons_succ]
 refine g_takeT 20 (i:=2) (v:=.int .i64 (ind : Int)) (by rfl) (by kernel_rfl) (by kernel_rfl) (by kernel_rfl) (by kernel_rfl) (by kernel_rfl) (fun _ _ _ h => pan_put h) (Or.inl ⟨by kernel_rfl,fun W hS => (by obtain ⟨s0,s1,s2,s3,s4,s5,s6⟩:=hS; go_simp)⟩) hH ?_
 simp only [Act.put,List.setIfInBounds_toArray,List.set_cons_zero,List.set_cons_succ]
 refine g_takeT 20 (i:=3) (v:=.pointer (some ⟨b3,1,none⟩)) (by rfl) (by kernel_rfl) (by kernel_rfl) (by kernel_rfl) (by kernel_rfl) (by kernel_rfl) (fun _ _ _ h => pan_put h) (Or.inl ⟨by kernel_rfl,fun W hS => (by obtain ⟨s0,s1,s2,s3,s4,s5,s6⟩:=hS; go_simp)⟩) hH ?_
 simp only [Act.put,List.setIfInBounds_toArray,List.set_cons_zero,List.set_cons_succ]
 refine g_takeT 20 (i:=4) (v:=.string n.t) (by rfl) (by kernel_rfl) (by kernel_rfl) (by kernel_rfl) (by kernel_rfl) (by kernel_rfl) (fun _ _ _ h => pan_put h) (Or.inl ⟨by kernel_rfl,fun W hS => (by obtain ⟨s0,s1,s2,s3,s4,s5,s6⟩:=hS; go_simp)⟩) hH ?_
 simp only [Act.put,List.setIfInBounds_toArray,List.set_cons_zero,List.set_cons_succ]
 refine g_takeT 20 (i:=9) (v:=.int .i64 (ind : Int)) (by rfl) (by kernel_rfl) (by kernel_rfl) (by kernel_rfl) (by kernel_rfl) (by kernel_rfl) (fun _ _ _ h => pan_put h) (Or.inl ⟨by kernel_rfl,fun W hS => (by obtain ⟨s0,s1,s2,s3,s4,s5,s6⟩:=hS; go_simp)⟩) hH ?_
 simp only [Act.put,List.setIfInBounds_toArray,List.set_cons_zero,List.set_cons_succ]
 refine g_takeT 20 (i:=10) (v:=.int .i64 ((ind : Int) + 2)) (by rfl) (by kernel_rfl) (by kernel_rfl) (by kernel_rfl) (by kernel_rfl) (by kernel_rfl) (fun _ _ _ h => pan_put h) (Or.inl ⟨by kernel_rfl,fun W hS => (by obtain ⟨s0,s1,s2,s3,s4,s5,s6⟩:=hS; go_simp; exact IntWalk.i64_in _ (by omega))⟩) hH ?_
 simp only [Act.put,List.setIfInBounds_toArray,List.set_cons_zero,List.set_cons_succ]
 refine g_one (i:=5) (by kernel_rfl) (by rfl) (fun K hK => ?_)
 go_simp
 refine hW.mono ?_
 rintro e w1 ⟨rfl,hb1⟩
 have hb2 : Below W0.heap.size W0 w1:=(below_drew (Below.refl _ _)).trans hb1
 refine hK.out _ _ (fun _ => cells w1 hb2) (fun hH' => ?_)
 have hH:=hH' (by decide)
 clear hK K hW hH' hb1
 refine g_takeT 20 (i:=6) (v:=.int .i64 (X.size : Int)) (by rfl) (by kernel_rfl) (by kernel_rfl) (by kernel_rfl) (by kernel_rfl) (by kernel_rfl) (fun _ _ _ h => pan_put h) (Or.inl ⟨by kernel_rfl,fun W hS => (by obtain ⟨s0,s1,s2,s3,s4,s5,s6⟩:=hS; go_simp)⟩) hH ?_
 simp only [Act.put,List.setIfInBounds_toArray,List.set_cons_zero,List.set_cons_succ]
 refine g_takeT 20 (i:=7) (v:=.int .i64 ((ind : Int) + (X.size : Int))) (by rfl) (by kernel_rfl) (by kernel_rfl) (by kernel_rfl) (by kernel_rfl) (by kernel_rfl) (fun _ _ _ h => pan_put h) (Or.inl ⟨by kernel_rfl,fun W hS => (by obtain ⟨s0,s1,s2,s3,s4,s5,s6⟩:=hS; go_simp; exact IntWalk.i64_in _ (by omega))⟩) hH ?_
 simp only [Act.put,List.setIfInBounds_toArray,List.set_cons_zero,List.set_cons_succ]
 refine g_takeT 20 (i:=8) (v:=.int .i64 ((ind : Int) + (X.size : Int) + 2)) (by rfl) (by kernel_rfl) (by kernel_rfl) (by kernel_rfl) (by kernel_rfl) (by kernel_rfl) (fun _ _ _ h => pan_put h) (Or.inl ⟨by kernel_rfl,fun W hS => (by obtain ⟨s0,s1,s2,s3,s4,s5,s6⟩:=hS; go_simp; exact IntWalk.i64_in _ (by omega))⟩) hH ?_
 simp only [Act.put,List.setIfInBounds_toArray,List.set_cons_zero,List.set_cons_succ]
 refine g_one (i:=11) (by kernel_rfl) (by rfl) (fun K hK => ?_)
 go_simp
 refine (HO.out w1 hb2).mono ?_
 intro e w2 h2
 rcases h2.cases_ with ⟨_,rfl,h3⟩ | ⟨u,rfl,h3⟩
 ·refine hK.out _ _ (fun h => absurd (by decide) h) (fun _ => ?_)
  clear hK K h2 HO cells hH
  refine g_done (by kernel_rfl) (.inl ⟨by first | rfl | trivial,?_⟩) _
  go_wp2
  go_end0
  exact h3
 ·exact .inr ⟨_,rfl,h3,rfl⟩
set_option maxHeartbeats 8000000 in
theorem outl1_vis (n : Nd) (hn : OutlAt n) (hkn : ∀ m ∈ n.kids,OutlAt m) (ind : Nat) (hind : ind + 2 * sizeN n + 2 <= 1000000000) (hns : smallT n) (hnsh : shaped n = true) (hnz : sizeN n <= 90000) (s : Nat) (path : List Nat) (g : Option Nat) (b1 b2 : Nat) (A : Option Addr) (c : Nat) (w : World) (hi : SI s w path g) (hA : NAt (fun b _ => b < s) w n A c) (hlen : path.length + sizeN n <= 100000)
 (h1 : Bes s g w b1 51 #[.pointer (some ⟨s,0,none⟩)]) (h2 : Bes s g w b2 3 #[.int .i64 (ind : Int)]) :
 Calls Tryz.prog 87 #[ndVal n A c,.pointer (some ⟨b1,0,none⟩),.pointer (some ⟨b2,0,none⟩)] w (VPost s path g w (srN badS nextS n (if n.k = 8 then .ok_ ind else .ot (ind + 2) (ind + 2)))):=by
 have al:=al_nd w #[.int .i64 n.k,.string n.t,.string n.v,.slice A n.kids.length c]
 have bX:=Bes.new hi 24 #[.int .i64 n.k,.string n.t,.string n.v,.slice A n.kids.length c]
 have e1:=h1.below al
 have e2:=h2.below al
 have s1:=sbox' e1
 have s2:=sbox' e2
 obtain ⟨x0,x1,x2,x3⟩:=nbox' bX
 have hi1:=hi.below al
 have HI:=Lib.hid hi
 have HF : Hid (FrS s g w _ g):=Lib.hid (FrS.of_below al)
 have hib : ind <= 1000000000:=by omega
 by_cases hk : n.k = 8
 case pos =>
  rw [if_pos hk,srN_good (.ok_ ind) n rfl]
  have hK:=kids_vis (.ok_ ind) s path g n A c _ hi1 (hA.lowb hi al) hlen 88 #[] #[.pointer (some ⟨b1,0,none⟩),.pointer (some ⟨b2,0,none⟩),.pointer (some ⟨w.heap.size,0,none⟩)] (fun _ _ => rfl) (fun j h w1 g1 B cB k1 k2 k3 k4 => by
   have hmem : n.kids.getD j dNd ∈ n.kids:=by rw [getDn h]; exact List.getElem_mem h
   have hsz : 1 + sizeN (n.kids.getD j dNd) <= sizeN n:=by
    have:=(size_kid h).1
    obtain ⟨k,t,v,l⟩:=n
    have h2 : sizeN (.mk k t v l) = 1 + sizeL l:=by simp [sizeN]
    rw [h2]
    exact this
   have hsm : smallT (n.kids.getD j dNd) /\ shaped (n.kids.getD j dNd) = true:=by
    obtain ⟨k,t,v,l⟩:=n
    simp only [shaped,Bool.and_eq_true] at hnsh
    exact ⟨smallL_mem.1 hns.2.2 _ hmem,shapedL_mem.1 hnsh.2 _ hmem⟩
   have hnt : n.t.size <= 1048576:=by obtain ⟨k,t,v,l⟩:=n; exact hns.1
   have:=outl2_vis n (n.kids.getD j dNd) (hkn _ hmem) ind (by omega) hnt hsm.1 hsm.2 (by omega) s _ g1 b1 b2 w.heap.size A B c cB w1 k1 k3 k4 (e1.fr k2) (e2.fr k2) (bX.fr k2)
   simpa [nextS] using this)
  obtain ⟨k,t,v,l⟩:=n
  obtain rfl : k = 8:=hk
  unfold ndVal at hK ⊢
  simp only [Nd.k,Nd.t,Nd.v,Nd.kids] at hK x0 x1 x2 x3 HF s1 s2 ⊢
  clear hi hi1 hA al bX e1 e2 h1 h2 hn hkn hns hnsh
  go_enter Tryz.func87,Tryz.ntmps87
  go_wp2_with fail
  refine hK.mono ?_
  intro e w1 h
  have h2:=VPost.pre HI.out HF.out h
  rcases h2.cases_ with ⟨_,rfl,h3⟩ | ⟨u,rfl,h3⟩
  ·clear h h2 hK
   go_wp2
   go_end0
   exact h3
  ·exact ⟨rfl,h3⟩
 case neg =>
  rw [if_neg hk]
  have hO:=hn (ind + 2) (ind + 2) (by omega) (by omega) hns hnsh hnz s path g A c _ hi1 (hA.lowb hi al) hlen
  have e3 : ((ind + 2 : Nat) : Int) = (ind : Int) + 2:=by omega
  rw [e3] at hO
  have z1:=ibeq hk
  unfold ndVal at hO ⊢
  generalize srN badS nextS n (.ot (ind + 2) (ind + 2)) = R at *
  simp only [List.append_toArray,List.cons_append,List.nil_append] at hO
  generalize n.k = k at *
  clear hi hi1 hA al bX e1 e2 h1 h2 hn hkn hns hnsh hk
  go_enter Tryz.func87,Tryz.ntmps87
  go_wp2_with fail
  refine hO.mono ?_
  intro e w1 h
  have h2:=VPost.pre HI.out HF.out h
  rcases h2.cases_ with ⟨_,rfl,h3⟩ | ⟨u,rfl,h3⟩
  ·clear h h2 hO
   go_wp2
   go_end0
   exact h3
  ·exact ⟨rfl,h3⟩
set_option maxHeartbeats 16000000 in
theorem outl_step (n : Nd) (IH : ∀ m,sizeN m < sizeN n -> OutlAt m) : OutlAt n:=by
 cases n with
 | mk k t v l =>
  have ih : ∀ m ∈ l,OutlAt m:=fun m hm => IH m (by have:=sizeL_mem hm; simp [sizeN]; omega)
  intro a ind ha hind hs hsh hz s path g A c w hi hA hlen
  have al1 : Below w.heap.size w (w.alloc (.cells #[.pointer (some ⟨s,0,none⟩)] 51)):=(Below.refl _ _).alloc (Nat.le_refl _) _
  have al2 : Below w.heap.size w ((w.alloc (.cells #[.pointer (some ⟨s,0,none⟩)] 51)).alloc (.cells #[.int .i64 k,.string t,.string v,.slice A l.length c] 24)):=al1.alloc (by simp) _
  have al : Below w.heap.size w (((w.alloc (.cells #[.pointer (some ⟨s,0,none⟩)] 51)).alloc (.cells #[.int .i64 k,.string t,.string v,.slice A l.length c] 24)).alloc (.cells #[.int .i64 (ind : Int)] 3)):=al2.alloc (by simp; omega) _
  have b1:=((Bes.new hi 51 #[.pointer (some ⟨s,0,none⟩)]).below (al_nd _ #[.int .i64 k,.string t,.string v,.slice A l.length c])).below ((Below.refl _ _).alloc (Nat.le_refl _) (.cells #[.int .i64 (ind : Int)] 3))
  have b2:=(Bes.new (hi.below al1) 24 #[.int .i64 k,.string t,.string v,.slice A l.length c]).below ((Below.refl _ _).alloc (Nat.le_refl _) (.cells #[.int .i64 (ind : Int)] 3))
  have b3:=Bes.new (hi.below al2) 3 #[.int .i64 (ind : Int)]
  rw [World.size_alloc] at b2
  rw [World.size_alloc,World.size_alloc] at b3
  obtain ⟨W0,hW0⟩ : ∃ W0,((w.alloc (.cells #[.pointer (some ⟨s,0,none⟩)] 51)).alloc (.cells #[.int .i64 k,.string t,.string v,.slice A l.length c] 24)).alloc (.cells #[.int .i64 (ind : Int)] 3) = W0:=⟨_,rfl⟩
  rw [hW0] at al b1 b2 b3
  have hi1:=hi.below al
  have hA1:=hA.lowb hi al
  have hsz : sizeN (.mk k t v l) = 1 + sizeL l:=by simp [sizeN]
  have hls:=hs.2.2
  have hlsh : shapedL l = true:=by simp only [shaped,Bool.and_eq_true] at hsh; exact hsh.2
  have cells : ∀ W,Below W0.heap.size W0 W -> W.cell? ⟨w.heap.size,0,none⟩ = some (.pointer (some ⟨s,0,none⟩)) /\ W.cell? ⟨w.heap.size + 1,0,none⟩ = some (.int .i64 k) /\ W.cell? ⟨w.heap.size + 1,1,none⟩ = some (.string t) /\ W.cell? ⟨w.heap.size + 1,2,none⟩ = some (.string v) /\ W.cell? ⟨w.heap.size + 1,3,none⟩ = some (.slice A l.length c):=fun W h => by
   obtain ⟨x0,x1,x2,x3⟩:=nbox' (n:=.mk k t v l) (b2.below h)
   exact ⟨sbox' (b1.below h),x0,x1,x2,x3⟩
  have hRy:=fun (W : World) (h : Below W0.heap.size W0 W) => refuse_yes s path g W (hi1.below h)
  have HRE : Hid (badS (.ot a ind) (.mk k t v l) = true -> ∀ W w1 v',Below W0.heap.size W0 W -> ORow w1 (s + 1) 3 v' (pV path) -> Below W.heap.size W w1 -> VPost s path g w (srN badS nextS (.mk k t v l) (.ot a ind)) (.panicked (foundP v')) w1):=Lib.hid fun hb W w1 v' h0 ho h => refuse_end hi hb (al.trans (h0.mono al.size)) ho h
  have HK : Hid (badS (.ot a ind) (.mk k t v l) = false -> ∀ W,Below W0.heap.size W0 W -> Calls Tryz.prog 84 #[.pointer (some ⟨s,0,none⟩),.agg #[.int .i64 k,.string t,.string v,.slice A l.length c],.func (.func 87) #[] #[.pointer (some ⟨w.heap.size,0,none⟩),.pointer (some ⟨w.heap.size + 2,0,none⟩)]] W (VPost s path g w (srN badS nextS (.mk k t v l) (.ot a ind)))):=Lib.hid fun hb W h0 => by
   rw [srN_good _ _ hb]
   have hw0:=al.trans (h0.mono al.size)
   refine (kids_vis (.ot a ind) s path g (.mk k t v l) A c W (hi1.below h0) (hA.lowb hi hw0) hlen 87 #[] #[.pointer (some ⟨w.heap.size,0,none⟩),.pointer (some ⟨w.heap.size + 2,0,none⟩)] (fun _ _ => rfl) (fun j h w1 g1 B cB k1 k2 k3 k4 => by
    have hmem : l.getD j dNd ∈ l:=by rw [getDn (l:=l) h]; exact List.getElem_mem h
    have hsk:=(size_kid (l:=l) h).1
    have hgs : ∀ m ∈ (l.getD j dNd).kids,OutlAt m:=fun m hm => IH m (by
     have h1 : sizeN m < sizeN (l.getD j dNd):=by
      generalize l.getD j dNd = q at hm
      cases q with
      | mk k2 t2 v2 l2 => have:=sizeL_mem hm; simp [sizeN]; simp only [Nd.kids] at this; omega
     omega)
    have:=outl1_vis (l.getD j dNd) (ih _ hmem) hgs ind (by omega) (smallL_mem.1 hls _ hmem) (shapedL_mem.1 hlsh _ hmem) (by omega) s _ g1 w.heap.size (w.heap.size + 2) B cB w1 k1 k3 k4 ((b1.below h0).fr k2) ((b3.below h0).fr k2)
    simpa [nextS,Nd.kids] using this)).mono fun e w1 h => VPost.pre hi (FrS.of_below hw0) h
  have hLL:=fun (W : World) (h : Below W0.heap.size W0 W) => linelen_any (.mk k t v l) a ha A c W (((hA1.below h).weaken fun b _ hb => Nat.lt_of_lt_of_le (Nat.lt_trans hb hi1.lt) h.size)) hs hsh hz
  have hbad : badS (.ot a ind) (.mk k t v l) = (decide (k = 10) || decide (160 < lineN (.mk k t v l) a)):=rfl
  rw [hbad] at HRE HK
  generalize lineN (.mk k t v l) a = LN at *
  generalize srN badS nextS (.mk k t v l) (.ot a ind) = R at *
  simp only [List.append_toArray,List.cons_append,List.nil_append]
  unfold ndVal at hLL ⊢
  simp only [Nd.k,Nd.t,Nd.v,Nd.kids] at hLL ⊢
  clear hi hA hi1 hA1 b1 b2 b3 ih IH hbad hs hsh hz hls hlsh hlen hsz al1 al2
  go_enter Tryz.func49,Tryz.ntmps49
  go_wp2
  clear hW0
  refine region_gp [] (S:=(fun W => W.cell? ⟨w.heap.size,0,none⟩ = some (.pointer (some ⟨s,0,none⟩)) /\ W.cell? ⟨w.heap.size + 1,0,none⟩ = some (.int .i64 k) /\ W.cell? ⟨w.heap.size + 1,1,none⟩ = some (.string t) /\ W.cell? ⟨w.heap.size + 1,2,none⟩ = some (.string v) /\ W.cell? ⟨w.heap.size + 1,3,none⟩ = some (.slice A l.length c))) (fun c w' => VPost s path g w R (.panicked c) w') (by kernel_rfl) (cells _ (below_drew (Below.refl _ _))) (fun c a' w' hd hR => ⟨hd,hR⟩) (fun hH => ?_)
  have hdr : Below W0.heap.size W0 W0.drew:=below_drew (Below.refl _ _)
  by_cases hk : k = 10
  case pos =>
   subst hk
   have HRE2:=Lib.hid (HRE.out (by simp))
   clear HRE HK hLL
   refine g_take (i:=0) (v:=.pointer (some ⟨s,0,none⟩)) (by rfl) (by kernel_rfl) (by kernel_rfl) (by kernel_rfl) (by kernel_rfl) (fun _ _ _ h => pan_put h) (Or.inl ⟨by kernel_rfl,fun W hS => (by obtain ⟨s0,s1,s2,s3,s4⟩:=hS; go_simp)⟩) hH ?_
   simp only [Act.put,List.setIfInBounds_toArray,List.set_cons_zero,List.set_cons_succ]
   refine g_take (i:=1) (v:=.pointer (some ⟨w.heap.size + 1,0,none⟩)) (by rfl) (by kernel_rfl) (by kernel_rfl) (by kernel_rfl) (by kernel_rfl) (fun _ _ _ h => pan_put h) (Or.inl ⟨by kernel_rfl,fun W hS => (by obtain ⟨s0,s1,s2,s3,s4⟩:=hS; go_simp)⟩) hH ?_
   simp only [Act.put,List.setIfInBounds_toArray,List.set_cons_zero,List.set_cons_succ]
   refine g_take (i:=2) (v:=.int .i64 10) (by rfl) (by kernel_rfl) (by kernel_rfl) (by kernel_rfl) (by kernel_rfl) (fun _ _ _ h => pan_put h) (Or.inl ⟨by kernel_rfl,fun W hS => (by obtain ⟨s0,s1,s2,s3,s4⟩:=hS; go_simp)⟩) hH ?_
   simp only [Act.put,List.setIfInBounds_toArray,List.set_cons_zero,List.set_cons_succ]
   refine g_take (i:=3) (v:=.bool true) (by rfl) (by kernel_rfl) (by kernel_rfl) (by kernel_rfl) (by kernel_rfl) (fun _ _ _ h => pan_put h) (Or.inl ⟨by kernel_rfl,fun W hS => (by obtain ⟨s0,s1,s2,s3,s4⟩:=hS; go_simp)⟩) hH ?_
   simp only [Act.put,List.setIfInBounds_toArray,List.set_cons_zero,List.set_cons_succ]
   refine g_take (i:=4) (v:=.bool true) (by rfl) (by kernel_rfl) (by kernel_rfl) (by kernel_rfl) (by kernel_rfl) (fun _ _ _ h => pan_put h) (Or.inl ⟨by kernel_rfl,fun W hS => (by obtain ⟨s0,s1,s2,s3,s4⟩:=hS; go_simp)⟩) hH ?_
   simp only [Act.put,List.setIfInBounds_toArray,List.set_cons_zero,List.set_cons_succ]
   refine g_take (i:=5) (v:=undef) (by rfl) (by kernel_rfl) (by kernel_rfl) (by kernel_rfl) (by kernel_rfl) (fun _ _ _ h => pan_put h) (Or.inr ⟨by kernel_rfl,rfl⟩) hH ?_
   simp only [Act.put,List.setIfInBounds_toArray,List.set_cons_zero,List.set_cons_succ]
   refine g_take (i:=6) (v:=undef) (by rfl) (by kernel_rfl) (by kernel_rfl) (by kernel_rfl) (by kernel_rfl) (fun _ _ _ h => pan_put h) (Or.inr ⟨by kernel_rfl,rfl⟩) hH ?_
   simp only [Act.put,List.setIfInBounds_toArray,List.set_cons_zero,List.set_cons_succ]
   refine g_take (i:=7) (v:=undef) (by rfl) (by kernel_rfl) (by kernel_rfl) (by kernel_rfl) (by kernel_rfl) (fun _ _ _ h => pan_put h) (Or.inr ⟨by kernel_rfl,rfl⟩) hH ?_
   simp only [Act.put,List.setIfInBounds_toArray,List.set_cons_zero,List.set_cons_succ]
   refine g_take (i:=8) (v:=undef) (by rfl) (by kernel_rfl) (by kernel_rfl) (by kernel_rfl) (by kernel_rfl) (fun _ _ _ h => pan_put h) (Or.inr ⟨by kernel_rfl,rfl⟩) hH ?_
   simp only [Act.put,List.setIfInBounds_toArray,List.set_cons_zero,List.set_cons_succ]
   refine g_take (i:=9) (v:=.bool true) (by rfl) (by kernel_rfl) (by kernel_rfl) (by kernel_rfl) (by kernel_rfl) (fun _ _ _ h => pan_put h) (Or.inl ⟨by kernel_rfl,fun W hS => (by obtain ⟨s0,s1,s2,s3,s4⟩:=hS; go_simp)⟩) hH ?_
   simp only [Act.put,List.setIfInBounds_toArray,List.set_cons_zero,List.set_cons_succ]
   refine g_one (i:=10) (by kernel_rfl) (by rfl) (fun K hK => ?_)
   go_simp
   refine (hRy _ hdr).mono ?_
   rintro e w2 ⟨u,rfl,ho,hb⟩
   exact .inr ⟨_,rfl,HRE2.out _ w2 u hdr ho hb,rfl⟩
  case neg =>
   have z1:=ibeq hk
   rw [decide_eq_false hk,Bool.false_or] at HRE HK
   clear hk
   refine g_take (i:=0) (v:=.pointer (some ⟨s,0,none⟩)) (by rfl) (by kernel_rfl) (by kernel_rfl) (by kernel_rfl) (by kernel_rfl) (fun _ _ _ h => pan_put h) (Or.inl ⟨by kernel_rfl,fun W hS => (by obtain ⟨s0,s1,s2,s3,s4⟩:=hS; go_simp)⟩) hH ?_
   simp only [Act.put,List.setIfInBounds_toArray,List.set_cons_zero,List.set_cons_succ]
   refine g_take (i:=1) (v:=.pointer (some ⟨w.heap.size + 1,0,none⟩)) (by rfl) (by kernel_rfl) (by kernel_rfl) (by kernel_rfl) (by kernel_rfl) (fun _ _ _ h => pan_put h) (Or.inl ⟨by kernel_rfl,fun W hS => (by obtain ⟨s0,s1,s2,s3,s4⟩:=hS; go_simp)⟩) hH ?_
   simp only [Act.put,List.setIfInBounds_toArray,List.set_cons_zero,List.set_cons_succ]
   refine g_take (i:=2) (v:=.int .i64 k) (by rfl) (by kernel_rfl) (by kernel_rfl) (by kernel_rfl) (by kernel_rfl) (fun _ _ _ h => pan_put h) (Or.inl ⟨by kernel_rfl,fun W hS => (by obtain ⟨s0,s1,s2,s3,s4⟩:=hS; go_simp)⟩) hH ?_
   simp only [Act.put,List.setIfInBounds_toArray,List.set_cons_zero,List.set_cons_succ]
   refine g_take (i:=3) (v:=.bool false) (by rfl) (by kernel_rfl) (by kernel_rfl) (by kernel_rfl) (by kernel_rfl) (fun _ _ _ h => pan_put h) (Or.inl ⟨by kernel_rfl,fun W hS => (by obtain ⟨s0,s1,s2,s3,s4⟩:=hS; go_simp)⟩) hH ?_
   simp only [Act.put,List.setIfInBounds_toArray,List.set_cons_zero,List.set_cons_succ]
   refine g_take (i:=4) (v:=.bool false) (by rfl) (by kernel_rfl) (by kernel_rfl) (by kernel_rfl) (by kernel_rfl) (fun _ _ _ h => pan_put h) (Or.inl ⟨by kernel_rfl,fun W hS => (by obtain ⟨s0,s1,s2,s3,s4⟩:=hS; go_simp)⟩) hH ?_
   simp only [Act.put,List.setIfInBounds_toArray,List.set_cons_zero,List.set_cons_succ]
   refine g_take (i:=5) (v:=.agg #[.int .i64 k,.string t,.string v,.slice A l.length c]) (by rfl) (by kernel_rfl) (by kernel_rfl) (by kernel_rfl) (by kernel_rfl) (fun _ _ _ h => pan_put h) (Or.inl ⟨by kernel_rfl,fun W hS => (by obtain ⟨s0,s1,s2,s3,s4⟩:=hS; go_simp)⟩) hH ?_
   simp only [Act.put,List.setIfInBounds_toArray,List.set_cons_zero,List.set_cons_succ]
   refine g_take (i:=6) (v:=.int .i64 (a : Int)) (by rfl) (by kernel_rfl) (by kernel_rfl) (by kernel_rfl) (by kernel_rfl) (fun _ _ _ h => pan_put h) (Or.inl ⟨by kernel_rfl,fun W hS => (by obtain ⟨s0,s1,s2,s3,s4⟩:=hS; go_simp)⟩) hH ?_
   simp only [Act.put,List.setIfInBounds_toArray,List.set_cons_zero,List.set_cons_succ]
   refine g_one (i:=7) (by kernel_rfl) (by rfl) (fun K hK => ?_)
   go_simp
   refine (hLL _ hdr).mono ?_
   rintro e w1 ⟨rfl,hb1⟩
   have hb2 : Below W0.heap.size W0 w1:=hdr.trans hb1
   refine hK.out _ _ (fun _ => cells w1 hb2) (fun hH' => ?_)
   clear hK K hH hb1 hLL
   have hH:=cells w1 hb2
   by_cases hL : 160 < LN
   case pos =>
    rw [decide_eq_true hL] at HRE
    have HRE2:=Lib.hid (HRE.out rfl)
    clear HRE HK
    refine g_take (i:=8) (v:=.bool true) (by rfl) (by kernel_rfl) (by kernel_rfl) (by kernel_rfl) (by kernel_rfl) (fun _ _ _ h => pan_put h) (Or.inl ⟨by kernel_rfl,fun W hS => (by obtain ⟨s0,s1,s2,s3,s4⟩:=hS; go_simp)⟩) hH ?_
    simp only [Act.put,List.setIfInBounds_toArray,List.set_cons_zero,List.set_cons_succ]
    refine g_take (i:=9) (v:=.bool true) (by rfl) (by kernel_rfl) (by kernel_rfl) (by kernel_rfl) (by kernel_rfl) (fun _ _ _ h => pan_put h) (Or.inl ⟨by kernel_rfl,fun W hS => (by obtain ⟨s0,s1,s2,s3,s4⟩:=hS; go_simp)⟩) hH ?_
    simp only [Act.put,List.setIfInBounds_toArray,List.set_cons_zero,List.set_cons_succ]
    refine g_one (i:=10) (by kernel_rfl) (by rfl) (fun K hK => ?_)
    go_simp
    refine (hRy _ hb2).mono ?_
    rintro e w2 ⟨u,rfl,ho,hb⟩
    exact .inr ⟨_,rfl,HRE2.out _ w2 u hb2 ho hb,rfl⟩
   case neg =>
    rw [decide_eq_false hL] at HK
    have HK2:=Lib.hid (HK.out rfl w1 hb2)
    clear HRE HK hRy
    refine g_take (i:=8) (v:=.bool false) (by rfl) (by kernel_rfl) (by kernel_rfl) (by kernel_rfl) (by kernel_rfl) (fun _ _ _ h => pan_put h) (Or.inl ⟨by kernel_rfl,fun W hS => (by obtain ⟨s0,s1,s2,s3,s4⟩:=hS; go_simp)⟩) hH ?_
    simp only [Act.put,List.setIfInBounds_toArray,List.set_cons_zero,List.set_cons_succ]
    refine g_take (i:=9) (v:=.bool false) (by rfl) (by kernel_rfl) (by kernel_rfl) (by kernel_rfl) (by kernel_rfl) (fun _ _ _ h => pan_put h) (Or.inl ⟨by kernel_rfl,fun W hS => (by obtain ⟨s0,s1,s2,s3,s4⟩:=hS; go_simp)⟩) hH ?_
    simp only [Act.put,List.setIfInBounds_toArray,List.set_cons_zero,List.set_cons_succ]
    refine g_one (i:=10) (by kernel_rfl) (by rfl) (fun K hK => ?_)
    go_simp
    refine (refuse_no s w1).mono ?_
    rintro e w2 ⟨rfl,rfl⟩
    refine hK.out _ _ (fun _ => hH) (fun _ => ?_)
    clear hK K
    refine g_done (by kernel_rfl) (.inl ⟨by first | rfl | trivial,?_⟩) _
    obtain ⟨s0,s1,s2,s3,s4⟩:=hH
    clear cells hb2 hL
    go_wp2_with fail
    refine HK2.out.mono ?_
    intro e w3 h2
    rcases h2.cases_ with ⟨_,rfl,h3⟩ | ⟨u,rfl,h3⟩
    ·clear h2 HK2
     go_wp2
     go_end0
     exact h3
    ·exact ⟨rfl,h3⟩
theorem outl_vis (n : Nd) : OutlAt n:=by
 generalize hN : sizeN n = N
 induction N using Nat.strongRecOn generalizing n with
 | ind N ih => exact outl_step n (fun m hm => ih _ (by omega) m rfl)
set_option maxHeartbeats 4000000 in
theorem root1 (n : Nd) (ho : okC n) (hz : sizeN n <= 90000) : RootAt 1 n (srN badS nextS n .brc):=by
 intro s path g A c w hi hA hl
 have al:=al_nd w #[.int .i64 n.k,.string n.t,.string n.v,.slice A n.kids.length c]
 have hi1:=hi.below al
 have HI:=Lib.hid hi
 have HF : Hid (FrS s g w _ g):=Lib.hid (FrS.of_below al)
 have hV : VisAt 47 #[] .brc n:=brace_vis n
 obtain ⟨x0,x1,x2,x3⟩:=nbox (Blk.new w 24 #[.int .i64 n.k,.string n.t,.string n.v,.slice A n.kids.length c])
 have hK:=hV s path g A c _ hi1 (hA.lowb hi al) hl
 unfold ndVal at hK
 simp only [List.append_toArray,List.cons_append,List.nil_append,Array.append_empty] at hK
 generalize srN badS nextS n .brc = R at *
 clear hi hi1 hA al ho hV hz
 go_enter Tryz.func29,Tryz.ntmps29
 go_wp2_with fail
 refine hK.mono ?_
 intro e w1 h
 have h2:=VPost.pre HI.out HF.out h
 rcases h2.cases_ with ⟨_,rfl,h3⟩ | ⟨u,rfl,h3⟩
 ·clear h h2 hK
  go_wp2
  go_end0
  exact h3
 ·exact ⟨rfl,h3⟩
set_option maxHeartbeats 4000000 in
theorem root2 (n : Nd) (ho : okC n) (hz : sizeN n <= 90000) : RootAt 2 n (srN badS nextS n .an0):=by
 intro s path g A c w hi hA hl
 have al:=al_nd w #[.int .i64 n.k,.string n.t,.string n.v,.slice A n.kids.length c]
 have hi1:=hi.below al
 have HI:=Lib.hid hi
 have HF : Hid (FrS s g w _ g):=Lib.hid (FrS.of_below al)
 have hV : VisAt 48 #[] .an0 n:=angle_vis n ho.1
 obtain ⟨x0,x1,x2,x3⟩:=nbox (Blk.new w 24 #[.int .i64 n.k,.string n.t,.string n.v,.slice A n.kids.length c])
 have hK:=hV s path g A c _ hi1 (hA.lowb hi al) hl
 unfold ndVal at hK
 simp only [List.append_toArray,List.cons_append,List.nil_append,Array.append_empty] at hK
 generalize srN badS nextS n .an0 = R at *
 clear hi hi1 hA al ho hV hz
 go_enter Tryz.func29,Tryz.ntmps29
 go_wp2_with fail
 refine hK.mono ?_
 intro e w1 h
 have h2:=VPost.pre HI.out HF.out h
 rcases h2.cases_ with ⟨_,rfl,h3⟩ | ⟨u,rfl,h3⟩
 ·clear h h2 hK
  go_wp2
  go_end0
  exact h3
 ·exact ⟨rfl,h3⟩
set_option maxHeartbeats 4000000 in
theorem root3 (n : Nd) (ho : okC n) (hz : sizeN n <= 90000) : RootAt 3 n (srN badS nextS n (.ot 0 0)):=by
 intro s path g A c w hi hA hl
 have al:=al_nd w #[.int .i64 n.k,.string n.t,.string n.v,.slice A n.kids.length c]
 have hi1:=hi.below al
 have HI:=Lib.hid hi
 have HF : Hid (FrS s g w _ g):=Lib.hid (FrS.of_below al)
 have hV : VisAt 49 #[.int .i64 ((0 : Nat) : Int),.int .i64 ((0 : Nat) : Int)] (.ot 0 0) n:=outl_vis n 0 0 (by omega) (by omega) ho.2.1 ho.2.2 hz
 obtain ⟨x0,x1,x2,x3⟩:=nbox (Blk.new w 24 #[.int .i64 n.k,.string n.t,.string n.v,.slice A n.kids.length c])
 have hK:=hV s path g A c _ hi1 (hA.lowb hi al) hl
 unfold ndVal at hK
 simp only [List.append_toArray,List.cons_append,List.nil_append,Array.append_empty] at hK
 generalize srN badS nextS n (.ot 0 0) = R at *
 clear hi hi1 hA al ho hV hz
 go_enter Tryz.func29,Tryz.ntmps29
 go_wp2_with fail
 refine hK.mono ?_
 intro e w1 h
 have h2:=VPost.pre HI.out HF.out h
 rcases h2.cases_ with ⟨_,rfl,h3⟩ | ⟨u,rfl,h3⟩
 ·clear h h2 hK
  go_wp2
  go_end0
  exact h3
 ·exact ⟨rfl,h3⟩
set_option maxHeartbeats 4000000 in
theorem root4 (n : Nd) (ho : okC n) (hz : sizeN n <= 90000) : RootAt 4 n (srN badS nextS n .sc0):=by
 intro s path g A c w hi hA hl
 have al:=al_nd w #[.int .i64 n.k,.string n.t,.string n.v,.slice A n.kids.length c]
 have hi1:=hi.below al
 have HI:=Lib.hid hi
 have HF : Hid (FrS s g w _ g):=Lib.hid (FrS.of_below al)
 have hV : VisAt 50 #[] .sc0 n:=sect_vis n ho hz
 obtain ⟨x0,x1,x2,x3⟩:=nbox (Blk.new w 24 #[.int .i64 n.k,.string n.t,.string n.v,.slice A n.kids.length c])
 have hK:=hV s path g A c _ hi1 (hA.lowb hi al) hl
 unfold ndVal at hK
 simp only [List.append_toArray,List.cons_append,List.nil_append,Array.append_empty] at hK
 generalize srN badS nextS n .sc0 = R at *
 clear hi hi1 hA al ho hV hz
 go_enter Tryz.func29,Tryz.ntmps29
 go_wp2_with fail
 refine hK.mono ?_
 intro e w1 h
 have h2:=VPost.pre HI.out HF.out h
 rcases h2.cases_ with ⟨_,rfl,h3⟩ | ⟨u,rfl,h3⟩
 ·clear h h2 hK
  go_wp2
  go_end0
  exact h3
 ·exact ⟨rfl,h3⟩
set_option maxHeartbeats 4000000 in
theorem root5 (n : Nd) (ho : okC n) (hz : sizeN n <= 90000) : RootAt 5 n (srN badS nextS n .dl0):=by
 intro s path g A c w hi hA hl
 have al:=al_nd w #[.int .i64 n.k,.string n.t,.string n.v,.slice A n.kids.length c]
 have hi1:=hi.below al
 have HI:=Lib.hid hi
 have HF : Hid (FrS s g w _ g):=Lib.hid (FrS.of_below al)
 have hV : VisAt 51 #[] .dl0 n:=delim_vis n (fun hk r hr f hf m hm h4 => (((ho.1.kid hr).kid hf).kid hm).leaf ⟨by omega,by omega,by omega,by omega⟩)
 obtain ⟨x0,x1,x2,x3⟩:=nbox (Blk.new w 24 #[.int .i64 n.k,.string n.t,.string n.v,.slice A n.kids.length c])
 have hK:=hV s path g A c _ hi1 (hA.lowb hi al) hl
 unfold ndVal at hK
 simp only [List.append_toArray,List.cons_append,List.nil_append,Array.append_empty] at hK
 generalize srN badS nextS n .dl0 = R at *
 clear hi hi1 hA al ho hV hz
 go_enter Tryz.func29,Tryz.ntmps29
 go_wp2_with fail
 refine hK.mono ?_
 intro e w1 h
 have h2:=VPost.pre HI.out HF.out h
 rcases h2.cases_ with ⟨_,rfl,h3⟩ | ⟨u,rfl,h3⟩
 ·clear h h2 hK
  go_wp2
  go_end0
  exact h3
 ·exact ⟨rfl,h3⟩
theorem srN_free (n : Nd) : srN badS nextS n .free = none:=by
 induction n using Nd.ind with
 | h k t v l ih =>
  rw [srN_good .free _ rfl]
  unfold restS
  rw [List.drop_zero]
  have : ∀ (r : List Nd) (i : Nat),(∀ m ∈ r,srN badS nextS m .free = none) -> srL badS nextS r (fun _ => Sr.free) i = none:=by
   intro r
   induction r with
   | nil => intro i _; rfl
   | cons m r ihr =>
    intro i h
    rw [srL_cons,h m (List.mem_cons_self ..)]
    exact ihr (i + 1) fun q hq => h q (List.mem_cons_of_mem _ hq)
  exact this l 0 ih
theorem root_all (x : Int) (hx : 1 <= x /\ x <= 6) (n : Nd) (ho : okC n) (hz : sizeN n <= 90000) : RootAt x n (ofP x n):=by
 unfold ofP
 rcases (show x = 1 \/ x = 2 \/ x = 3 \/ x = 4 \/ x = 5 \/ x = 6 by omega) with rfl | rfl | rfl | rfl | rfl | rfl
 ·exact root1 n ho hz
 ·exact root2 n ho hz
 ·exact root3 n ho hz
 ·exact root4 n ho hz
 ·exact root5 n ho hz
 ·have : srN badS nextS n .free = none:=srN_free n
  rw [show startS 6 = .free from rfl,this]
  exact root6 n
end Go.Proofs.YtbnppjmmlfncmaaGreatDoor
