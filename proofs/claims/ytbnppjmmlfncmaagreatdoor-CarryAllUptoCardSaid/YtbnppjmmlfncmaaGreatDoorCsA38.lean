/-
  carry: the search of sections: a field.
-/
import Derived.Test.YtbnppjmmlfncmaaGreatDoorCsA33
set_option maxRecDepth 100000
set_option linter.unusedSimpArgs false
set_option linter.unusedVariables false
namespace Go.Proofs.YtbnppjmmlfncmaaGreatDoor
open Go.RowKit Go.Maps
def okC (n : Nd) : Prop:=gram n /\ smallT n /\ shaped n = true
theorem okC.kid {n m : Nd} (h : okC n) (hm : m ∈ n.kids) : okC m:=by
 obtain ⟨h1,h2,h3⟩:=h
 refine ⟨h1.kid hm,?_,?_⟩
 ·obtain ⟨k,t,v,l⟩:=n; exact smallL_mem.1 h2.2.2 _ hm
 ·obtain ⟨k,t,v,l⟩:=n
  simp only [shaped,Bool.and_eq_true] at h3
  exact shapedL_mem.1 h3.2 _ hm
def TbsAt (n : Nd) : Prop:=∀ (a : Nat),a + sizeN n * 2000000 <= 1000000000000 -> okC n -> sizeN n <= 90000 -> (n.k = 7 \/ rowsB n = true) -> VisAt 123 #[.int .i64 (a : Int)] (.scr a) n
def TabAt (n : Nd) : Prop:=∀ (a : Nat),a + sizeN n * 2000000 <= 1000000000000 -> okC n -> sizeN n <= 90000 -> n.k = 7 -> VisAt 89 #[.int .i64 (a : Int)] (.sct a) n
theorem SI.set {s : Nat} {w : World} {path : List Nat} {g : Option Nat} {d : Nat} (h : SI s w path g) (hs : d ≠ s) (hg : some d ≠ g) (u : Value) : SI s (w.setCell ⟨d,0,none⟩ u) path g:=by
 obtain ⟨v,h1,h2,h3⟩:=h
 refine ⟨v,h1.far (p:=⟨d,0,none⟩) (fun e => hs e.symm) u,h2.kept (row:=some d) (only_setCell (World.grownBy.refl w (some d)) (.inl rfl) u) (.inr ?_),h3⟩
 rw [h3]
 exact fun e => hg e.symm
theorem FrD.set {s d : Nat} {g g' : Option Nat} {w w' : World} (h : FrD s d g w w' g') (u : Value) : FrD s d g w (w'.setCell ⟨d,0,none⟩ u) g' :=
 ⟨h.os,h.tape,h.output,by simpa [World.setCell] using h.size,fun k hk hs hd hg => (Below.heap_setCell w' ⟨d,0,none⟩ u k hd).trans (h.block k hk hs hd hg),h.own⟩
theorem Bes.far {s : Nat} {g : Option Nat} {w : World} {k : Nat} {t : TypeId} {cs : Array Value} (h : Bes s g w k t cs) {d : Nat} (hd : k ≠ d) (u : Value) : Bes s g (w.setCell ⟨d,0,none⟩ u) k t cs:=⟨h.1.far (p:=⟨d,0,none⟩) hd u,h.2⟩
theorem DPost.of_v {s d : Nat} {path : List Nat} {g : Option Nat} {w W1 : World} {r : Option (List Nat)} {b : Bool} {e : Ending} {w' : World} (hi : SI s w path g) (F1 : FrD s d g w W1 g) (D1 : Bes s g W1 d 4 #[.bool b]) (hds : s < d) (h : VPost s path g W1 r e w') : DPost s d path g w r b e w':=by
 rcases h with ⟨h1,h2,g',h3,h4⟩ | ⟨q,v,h1,h2,h3,h4⟩
 ·exact .inl ⟨h1,h2,g',h3,F1.trans h4.deep,D1.fr h4⟩
 ·exact .inr ⟨q,v,h1,h2,h3,(F1.low hi hds).trans h4⟩
theorem DPost.refuse {s d : Nat} {path : List Nat} {g : Option Nat} {w W1 w1 : World} {st : Sr} {n : Nd} {b : Bool} {v : Value} (hi : SI s w path g) (hb : badS st n = true) (F1 : FrD s d g w W1 g) (hds : s < d) (ho : ORow w1 (s + 1) 3 v (pV path)) (h1 : Below W1.heap.size W1 w1) : DPost s d path g w (srN badS nextS n st) b (.panicked (foundP v)) w1 :=
 .inr ⟨[],v,srN_bad st n hb,rfl,by rw [List.append_nil]; exact ho,(F1.low hi hds).trans (h1.mono (Nat.le_trans (Nat.le_of_lt hi.lt) F1.size))⟩
theorem DPost.cases_ {s d : Nat} {path : List Nat} {g : Option Nat} {w : World} {r : Option (List Nat)} {b : Bool} {e : Ending} {w' : World} (h : DPost s d path g w r b e w') :
 (e = .returned (.tuple #[]) /\ DPost s d path g w r b (.returned (.tuple #[])) w') \/ (∃ v,e = .panicked (foundP v) /\ DPost s d path g w r b (.panicked (foundP v)) w'):=by
 rcases h with ⟨h1,rfl,h3⟩ | ⟨q,v,h1,rfl,h3⟩
 ·exact .inl ⟨rfl,.inl ⟨h1,rfl,h3⟩⟩
 ·exact .inr ⟨v,rfl,.inr ⟨q,v,h1,rfl,h3⟩⟩
set_option maxHeartbeats 4000000 in
theorem fval_vis (n : Nd) (hT : TbsAt n) (p : Nat) (hp : p + 1 + sizeN n * 2000000 <= 1000000000000) (ho : okC n) (hz : sizeN n <= 90000) (hk : n.k = 7 \/ rowsB n = true) (s : Nat) (path : List Nat) (g : Option Nat) (b1 b2 : Nat) (A : Option Addr) (c : Nat) (w : World) (hi : SI s w path g) (hA : NAt (fun b _ => b < s) w n A c) (hlen : path.length + sizeN n <= 100000)
 (h1 : Bes s g w b1 51 #[.pointer (some ⟨s,0,none⟩)]) (h2 : Bes s g w b2 3 #[.int .i64 (p : Int)]) :
 Calls Tryz.prog 122 #[ndVal n A c,.pointer (some ⟨b1,0,none⟩),.pointer (some ⟨b2,0,none⟩)] w (VPost s path g w (srN badS nextS n (.scr (p + 1)))):=by
 have al:=al_nd w #[.int .i64 n.k,.string n.t,.string n.v,.slice A n.kids.length c]
 have HI:=Lib.hid hi
 have hi1:=hi.below al
 have s0:=sbox' (h1.below al)
 have s1:=sbox' (h2.below al)
 have HF : Hid (FrS s g w _ g):=Lib.hid (FrS.of_below al)
 obtain ⟨x0,x1,x2,x3⟩:=nbox (Blk.new w 24 #[.int .i64 n.k,.string n.t,.string n.v,.slice A n.kids.length c])
 have hK:=hT (p + 1) (by omega) ho hz hk s path g A c _ hi1 (hA.lowb hi al) hlen
 have e1 : ((p + 1 : Nat) : Int) = (p : Int) + 1:=by omega
 rw [e1] at hK
 have hpb : p <= 1000000000000:=by omega
 unfold ndVal at hK ⊢
 simp only [List.append_toArray,List.cons_append,List.nil_append] at hK
 generalize srN badS nextS n (.scr (p + 1)) = R at *
 clear hi hi1 h1 h2 hA al hT ho hk
 go_enter Tryz.func122,Tryz.ntmps122
 go_wp2_with fail
 refine hK.mono ?_
 intro e w1 h
 have h2:=VPost.pre HI.out HF.out h
 rcases h2.cases_ with ⟨_,rfl,h3⟩ | ⟨u,rfl,h3⟩
 ·clear h h2 hK
  go_wp2
  go_end0
  exact h3
 ·exact ⟨rfl,h3⟩
set_option maxHeartbeats 16000000 in
theorem fld_vis (f : Nd) (hT : ∀ m ∈ f.kids,TbsAt m) (hkf : f.k = 8) (a : Nat) (ha : a + sizeN f * 2000000 <= 1000000000000) (ho : okC f) (hz : sizeN f <= 90000) (s d : Nat) (hds : s < d) (dj : Bool) (path : List Nat) (g : Option Nat) (ba b1 : Nat) (A : Option Addr) (c : Nat) (w : World) (hi : SI s w path g) (hA : NAt (fun b _ => b < s) w f A c) (hlen : path.length + sizeN f <= 100000) (hd1 : ba ≠ d) (hd2 : b1 ≠ d)
 (h1 : Bes s g w b1 51 #[.pointer (some ⟨s,0,none⟩)]) (h2 : Bes s g w ba 3 #[.int .i64 (a : Int)]) (h3 : Bes s g w d 4 #[.bool dj]) :
 Calls Tryz.prog 120 #[ndVal f A c,.pointer (some ⟨ba,0,none⟩),.pointer (some ⟨d,0,none⟩),.pointer (some ⟨b1,0,none⟩)] w (DPost s d path g w (srN badS nextS f (.scf a dj)) (dj || deepF f)):=by
 obtain ⟨val,hval,hvk,hvg⟩:=ho.1.key hkf
 have al:=al_nd w #[.int .i64 f.k,.string f.t,.string f.v,.slice A f.kids.length c]
 have bX:=Bes.new hi 24 #[.int .i64 f.k,.string f.t,.string f.v,.slice A f.kids.length c]
 obtain ⟨W0,hW0⟩ : ∃ W0,w.alloc (.cells #[.int .i64 f.k,.string f.t,.string f.v,.slice A f.kids.length c] 24) = W0:=⟨_,rfl⟩
 rw [hW0] at al bX
 obtain ⟨hrc,hrm,hrk⟩:=(NAt.def_ _ _ _).1 (hA.lowb hi al)
 obtain ⟨b,o,rfl,hbo,hkid⟩:=hrk (by rw [hval]; simp)
 have hk1:=hkid 0 (by rw [hval]; simp)
 simp only [Nat.zero_mul,Nat.add_zero,hval,List.getElem_cons_zero] at hk1
 obtain ⟨B,cB,q0,q1,q2,q3,hn1⟩:=hk1
 have hrc1 : 1 <= c:=by rw [hval] at hrc; simpa using hrc
 have hrm2 : c <= 9223372036854775807:=by simpa [maxLen] using hrm
 have hlen1 : f.kids.length = 1:=by rw [hval]; rfl
 rw [hlen1] at bX hW0
 have hwl:=wordL_len f.t.data.toList
 have htl : f.t.data.toList.length = f.t.size:=by simp
 have hft : f.t.size <= 1048576:=by obtain ⟨k,t,v,l⟩:=f; exact ho.2.1.1
 have cells : ∀ W,Below W0.heap.size W0 W -> W.cell? ⟨w.heap.size,3,none⟩ = some (.slice (some ⟨b,o,none⟩) 1 c) /\ W.cell? ⟨b,o,none⟩ = some (.int .i64 val.k) /\ W.cell? ⟨b,o + 1,none⟩ = some (.string val.t) /\ W.cell? ⟨b,o + 2,none⟩ = some (.string val.v) /\ W.cell? ⟨b,o + 3,none⟩ = some (.slice B val.kids.length cB) /\ W.cell? ⟨ba,0,none⟩ = some (.int .i64 (a : Int)) /\ W.cell? ⟨w.heap.size,1,none⟩ = some (.string f.t):=fun W h => by
  have y3 : W.cell? ⟨w.heap.size,3,none⟩ = some (.slice (some ⟨b,o,none⟩) 1 c):=(bX.below h).1.cell 3
  have y1 : W.cell? ⟨w.heap.size,1,none⟩ = some (.string f.t):=(bX.below h).1.cell 1
  exact ⟨y3,(h.cell (p:=⟨b,o,none⟩) (cell_lt q0)).trans q0,(h.cell (p:=⟨b,o + 1,none⟩) (cell_lt q1)).trans q1,(h.cell (p:=⟨b,o + 2,none⟩) (cell_lt q2)).trans q2,(h.cell (p:=⟨b,o + 3,none⟩) (cell_lt q3)).trans q3,sbox' ((h2.below al).below h),y1⟩
 have hWd:=fun W => word1_any f.t W (by omega)
 obtain ⟨X,hX⟩ : ∃ X : ByteArray,(⟨(wordL f.t.data.toList).toArray⟩ : ByteArray) = X:=⟨_,rfl⟩
 have hsz : X.size = wordN f:=by rw [<- hX]; simp [ByteArray.size,wordN]
 rw [hX] at hWd
 have hwb : X.size <= 1048900:=by rw [hsz]; unfold wordN; omega
 have hab : a <= 1000000000000:=by omega
 have HSZ:=Lib.hid hsz
 clear hsz
 have HI:=Lib.hid hi
 have HC:=Lib.hid cells
 unfold ndVal
 rw [hlen1]
 rw [hkf] at bX hW0 ⊢
 obtain ⟨DB,hDB⟩ : ∃ DB,(dj || deepF f) = DB:=⟨_,rfl⟩
 rw [hDB]
 have HDB:=Lib.hid hDB
 clear hDB
 go_enter Tryz.func120,Tryz.ntmps120
 go_upto_region 1 with fail
 go_cut [5,6] from 8 to 17 (fun s5 s6 wx => ∃ nb np : Nat,s5 = .pointer (some ⟨nb,0,none⟩) /\ s6 = .pointer (some ⟨np,0,none⟩) /\ Hid (Below W0.heap.size W0 wx /\ Blk wx nb 24 #[.int .i64 val.k,.string val.t,.string val.v,.slice B val.kids.length cB] /\ Blk wx np 3 #[.int .i64 ((a : Int) + (X.size : Int))] /\ W0.heap.size <= nb /\ W0.heap.size <= np))
 case first =>
  clear hi hA h1 h2 h3 hT ho bX hn1 hkid hrk hval hvg cells
  have hdr : Below W0.heap.size W0 W0.drew:=below_drew (Below.refl _ _)
  have hd0 : Below W0.heap.size W0 W0:=Below.refl _ _
  clear hW0
  refine region_g [] (S:=(fun W => W.cell? ⟨w.heap.size,3,none⟩ = some (.slice (some ⟨b,o,none⟩) 1 c) /\ W.cell? ⟨b,o,none⟩ = some (.int .i64 val.k) /\ W.cell? ⟨b,o + 1,none⟩ = some (.string val.t) /\ W.cell? ⟨b,o + 2,none⟩ = some (.string val.v) /\ W.cell? ⟨b,o + 3,none⟩ = some (.slice B val.kids.length cB) /\ W.cell? ⟨ba,0,none⟩ = some (.int .i64 (a : Int)) /\ W.cell? ⟨w.heap.size,1,none⟩ = some (.string f.t))) (by kernel_rfl) (HC.out _ hdr) (fun hH => ?_)
  refine g_take (i:=0) (v:=.pointer (some ⟨w.heap.size,3,none⟩)) (by rfl) (by kernel_rfl) (by kernel_rfl) (by kernel_rfl) (by kernel_rfl) (fun _ _ _ h => (by cases h.1)) (Or.inl ⟨by kernel_rfl,fun W hS => (by obtain ⟨s0,s1,s2,s3,s4,s5,s6⟩:=hS; go_simp)⟩) hH ?_
  simp only [Act.put,List.setIfInBounds_toArray,List.set_cons_zero,List.set_cons_succ]
  refine g_take (i:=1) (v:=.slice (some ⟨b,o,none⟩) 1 c) (by rfl) (by kernel_rfl) (by kernel_rfl) (by kernel_rfl) (by kernel_rfl) (fun _ _ _ h => (by cases h.1)) (Or.inl ⟨by kernel_rfl,fun W hS => (by obtain ⟨s0,s1,s2,s3,s4,s5,s6⟩:=hS; go_simp)⟩) hH ?_
  simp only [Act.put,List.setIfInBounds_toArray,List.set_cons_zero,List.set_cons_succ]
  refine g_take (i:=2) (v:=.pointer (some ⟨b,o,none⟩)) (by rfl) (by kernel_rfl) (by kernel_rfl) (by kernel_rfl) (by kernel_rfl) (fun _ _ _ h => (by cases h.1)) (Or.inl ⟨by kernel_rfl,fun W hS => (by obtain ⟨s0,s1,s2,s3,s4,s5,s6⟩:=hS; go_simp)⟩) hH ?_
  simp only [Act.put,List.setIfInBounds_toArray,List.set_cons_zero,List.set_cons_succ]
  refine g_take (i:=3) (v:=.agg #[.int .i64 val.k,.string val.t,.string val.v,.slice B val.kids.length cB]) (by rfl) (by kernel_rfl) (by kernel_rfl) (by kernel_rfl) (by kernel_rfl) (fun _ _ _ h => (by cases h.1)) (Or.inl ⟨by kernel_rfl,fun W hS => (by obtain ⟨s0,s1,s2,s3,s4,s5,s6⟩:=hS; go_simp)⟩) hH ?_
  simp only [Act.put,List.setIfInBounds_toArray,List.set_cons_zero,List.set_cons_succ]
  refine g_take (i:=4) (v:=.int .i64 (a : Int)) (by rfl) (by kernel_rfl) (by kernel_rfl) (by kernel_rfl) (by kernel_rfl) (fun _ _ _ h => (by cases h.1)) (Or.inl ⟨by kernel_rfl,fun W hS => (by obtain ⟨s0,s1,s2,s3,s4,s5,s6⟩:=hS; go_simp)⟩) hH ?_
  simp only [Act.put,List.setIfInBounds_toArray,List.set_cons_zero,List.set_cons_succ]
  refine g_take (i:=5) (v:=.pointer (some ⟨w.heap.size,1,none⟩)) (by rfl) (by kernel_rfl) (by kernel_rfl) (by kernel_rfl) (by kernel_rfl) (fun _ _ _ h => (by cases h.1)) (Or.inl ⟨by kernel_rfl,fun W hS => (by obtain ⟨s0,s1,s2,s3,s4,s5,s6⟩:=hS; go_simp)⟩) hH ?_
  simp only [Act.put,List.setIfInBounds_toArray,List.set_cons_zero,List.set_cons_succ]
  refine g_take (i:=6) (v:=.string f.t) (by rfl) (by kernel_rfl) (by kernel_rfl) (by kernel_rfl) (by kernel_rfl) (fun _ _ _ h => (by cases h.1)) (Or.inl ⟨by kernel_rfl,fun W hS => (by obtain ⟨s0,s1,s2,s3,s4,s5,s6⟩:=hS; go_simp)⟩) hH ?_
  simp only [Act.put,List.setIfInBounds_toArray,List.set_cons_zero,List.set_cons_succ]
  refine g_all (rs:=[7,10,11]) (by kernel_rfl) (by simp) (fun i hi => ?_)
  simp only [List.mem_cons,List.not_mem_nil,or_false] at hi
  rcases hi with rfl | rfl | rfl
  ·refine ⟨_,by rfl,fun K hK => ?_⟩
   go_simp
   refine (hWd ((W0).drew)).mono ?_
   rintro e w7_0 ⟨rfl,hb7_0⟩
   have hc0:=(below_drew hd0).trans (hb7_0.mono (below_drew hd0).size)
   refine hK.out _ _ (fun _ => HC.out _ hc0) (fun _ => ?_)
   clear hK K
   have hH:=HC.out _ hc0
   refine g_take (i:=8) (v:=.int .i64 (X.size : Int)) (by rfl) (by kernel_rfl) (by kernel_rfl) (by kernel_rfl) (by kernel_rfl) (fun _ _ _ h => (by cases h.1)) (Or.inl ⟨by kernel_rfl,fun W hS => (by obtain ⟨s0,s1,s2,s3,s4,s5,s6⟩:=hS; go_simp)⟩) hH ?_
   simp only [Act.put,List.setIfInBounds_toArray,List.set_cons_zero,List.set_cons_succ]
   refine g_take (i:=9) (v:=.int .i64 ((a : Int) + (X.size : Int))) (by rfl) (by kernel_rfl) (by kernel_rfl) (by kernel_rfl) (by kernel_rfl) (fun _ _ _ h => (by cases h.1)) (Or.inl ⟨by kernel_rfl,fun W hS => (by obtain ⟨s0,s1,s2,s3,s4,s5,s6⟩:=hS; go_simp; exact IntWalk.i64_in _ (by omega))⟩) hH ?_
   simp only [Act.put,List.setIfInBounds_toArray,List.set_cons_zero,List.set_cons_succ]
   refine g_all (rs:=[10,11]) (by kernel_rfl) (by simp) (fun i hi => ?_)
   simp only [List.mem_cons,List.not_mem_nil,or_false] at hi
   rcases hi with rfl | rfl
   ·refine ⟨_,by rfl,fun K hK => ?_⟩
    go_simp
    have hc1 : Below W0.heap.size W0 ((w7_0).alloc (.cells #[.int .i64 0,.string ⟨#[]⟩,.string ⟨#[]⟩,.slice none 0 0] 24)):=hc0.alloc hc0.size _
    have hy1 : Blk ((w7_0).alloc (.cells #[.int .i64 0,.string ⟨#[]⟩,.string ⟨#[]⟩,.slice none 0 0] 24)) (w7_0.heap.size) 24 #[.int .i64 0,.string ⟨#[]⟩,.string ⟨#[]⟩,.slice none 0 0]:=by
     have:=Blk.new (w7_0) 24 #[.int .i64 0,.string ⟨#[]⟩,.string ⟨#[]⟩,.slice none 0 0]
     exact this
    have hge1 : W0.heap.size <= w7_0.heap.size:=by have:=(hc0).size; first | exact this | (simp only [World.size_alloc] at this; exact this)
    refine hK.out _ _ (fun _ => HC.out _ hc1) (fun _ => ?_)
    clear hK K
    refine g_one (i:=11) (by kernel_rfl) (by rfl) (fun K hK => ?_)
    go_simp
    have hc2 : Below W0.heap.size W0 (((w7_0).alloc (.cells #[.int .i64 0,.string ⟨#[]⟩,.string ⟨#[]⟩,.slice none 0 0] 24)).alloc (.cells #[.int .i64 0] 3)):=hc1.alloc hc1.size _
    have hznb2:=hy1.alloc (.cells #[.int .i64 0] 3)
    have hy2 : Blk (((w7_0).alloc (.cells #[.int .i64 0,.string ⟨#[]⟩,.string ⟨#[]⟩,.slice none 0 0] 24)).alloc (.cells #[.int .i64 0] 3)) (w7_0.heap.size + 1) 3 #[.int .i64 0]:=by
     have:=Blk.new ((w7_0).alloc (.cells #[.int .i64 0,.string ⟨#[]⟩,.string ⟨#[]⟩,.slice none 0 0] 24)) 3 #[.int .i64 0]
     rw [World.size_alloc] at this
     exact this
    have hge2 : W0.heap.size <= w7_0.heap.size + 1:=by have:=(hc1).size; first | exact this | (simp only [World.size_alloc] at this; exact this)
    refine hK.out _ _ (fun _ => HC.out _ hc2) (fun _ => ?_)
    clear hK K
    obtain ⟨WX,hWX⟩ : ∃ WX,((w7_0).alloc (.cells #[.int .i64 0,.string ⟨#[]⟩,.string ⟨#[]⟩,.slice none 0 0] 24)).alloc (.cells #[.int .i64 0] 3) = WX:=⟨_,rfl⟩
    have bn : Blk (((w7_0).alloc (.cells #[.int .i64 0,.string ⟨#[]⟩,.string ⟨#[]⟩,.slice none 0 0] 24)).alloc (.cells #[.int .i64 0] 3)) _ _ _:=hznb2
    have bp : Blk (((w7_0).alloc (.cells #[.int .i64 0,.string ⟨#[]⟩,.string ⟨#[]⟩,.slice none 0 0] 24)).alloc (.cells #[.int .i64 0] 3)) _ _ _:=hy2
    have gn : W0.heap.size <= w7_0.heap.size:=hge1
    have gp : W0.heap.size <= w7_0.heap.size + 1:=hge2
    have hbX : Below W0.heap.size W0 (((w7_0).alloc (.cells #[.int .i64 0,.string ⟨#[]⟩,.string ⟨#[]⟩,.slice none 0 0] 24)).alloc (.cells #[.int .i64 0] 3)):=hc2
    rw [hWX] at bn bp hbX ⊢
    obtain ⟨np,hnpe⟩ : ∃ np,w7_0.heap.size + 1 = np:=⟨_,rfl⟩
    replace bp : Blk WX np 3 #[.int .i64 0]:=by rw [<- hnpe]; exact bp
    replace gp : W0.heap.size <= np:=by rw [<- hnpe]; exact gp
    rw [hnpe]
    obtain ⟨nb,hnb⟩ : ∃ nb,w7_0.heap.size = nb:=⟨_,rfl⟩
    replace bn : Blk WX nb 24 #[.int .i64 0,.string ⟨#[]⟩,.string ⟨#[]⟩,.slice none 0 0]:=by rw [<- hnb]; exact bn
    replace gn : W0.heap.size <= nb:=by rw [<- hnb]; exact gn
    rw [hnb]
    have hnp : nb ≠ np:=fun e => by
     rw [e] at bn
     unfold Blk at bn bp
     rw [bp] at bn
     injection bn with bn
     injection bn with _ bn _
     exact absurd bn (by decide)
    clear hWX hnb hnpe
    have c0 : WX.cell? ⟨nb,0,none⟩ = some (.int .i64 0):=bn.cell 0
    have f0 : WX.frozen? ⟨nb,0,none⟩ = false:=bn.frozen 0
    have c1 : WX.cell? ⟨nb,1,none⟩ = some (.string ⟨#[]⟩):=bn.cell 1
    have f1 : WX.frozen? ⟨nb,1,none⟩ = false:=bn.frozen 1
    have c2 : WX.cell? ⟨nb,2,none⟩ = some (.string ⟨#[]⟩):=bn.cell 2
    have f2 : WX.frozen? ⟨nb,2,none⟩ = false:=bn.frozen 2
    have c3 : WX.cell? ⟨nb,3,none⟩ = some (.slice none 0 0):=bn.cell 3
    have f3 : WX.frozen? ⟨nb,3,none⟩ = false:=bn.frozen 3
    have ln:=bn.lt
    have hb0x:=hbX.setCell (p:=⟨nb,0,none⟩) gn (.int .i64 val.k)
    have bn0:=bn.set_ 0 (.int .i64 val.k)
    have bp0:=bp.far (p:=⟨nb,0,none⟩) (fun e => hnp e.symm) (.int .i64 val.k)
    have hb1x:=hb0x.setCell (p:=⟨nb,1,none⟩) gn (.string val.t)
    have bn1:=bn0.set_ 1 (.string val.t)
    have bp1:=bp0.far (p:=⟨nb,1,none⟩) (fun e => hnp e.symm) (.string val.t)
    have hb2x:=hb1x.setCell (p:=⟨nb,2,none⟩) gn (.string val.v)
    have bn2:=bn1.set_ 2 (.string val.v)
    have bp2:=bp1.far (p:=⟨nb,2,none⟩) (fun e => hnp e.symm) (.string val.v)
    have hb3x:=hb2x.setCell (p:=⟨nb,3,none⟩) gn (.slice B val.kids.length cB)
    have bn3:=bn2.set_ 3 (.slice B val.kids.length cB)
    have bp3:=bp2.far (p:=⟨nb,3,none⟩) (fun e => hnp e.symm) (.slice B val.kids.length cB)
    have HL:=Lib.hid (And.intro hb3x (And.intro bn3 bp3))
    clear hbX hb0x hb1x hb2x hb3x bn bn0 bn1 bn2 bn3 bp bp0 bp1 bp2 bp3
    refine g_one (i:=12) (by kernel_rfl) (by rfl) (fun K hK => ?_)
    go_simp
    refine hK.out _ _ (fun _ => HC.out _ HL.out.1) (fun _ => ?_)
    clear hK K c0 c1 c2 c3 f0 f1 f2 f3
    obtain ⟨hb3x,bn3,bp3⟩:=HL.out
    obtain ⟨WY,hWY⟩ : ∃ WY,(((WX.setCell ⟨nb,0,none⟩ (.int .i64 val.k)).setCell ⟨nb,1,none⟩ (.string val.t)).setCell ⟨nb,2,none⟩ (.string val.v)).setCell ⟨nb,3,none⟩ (.slice B val.kids.length cB) = WY:=⟨_,rfl⟩
    rw [hWY] at hb3x bn3 bp3 ⊢
    clear hWY HL
    have d0 : WY.cell? ⟨np,0,none⟩ = some (Value.int .i64 0):=bp3.cell 0
    have e0:=bp3.frozen 0
    have lp:=bp3.lt
    have hb4x:=hb3x.setCell (p:=⟨np,0,none⟩) gp (.int .i64 ((a : Int) + (X.size : Int)))
    have bn4:=bn3.far (p:=⟨np,0,none⟩) hnp (.int .i64 ((a : Int) + (X.size : Int)))
    have bp4:=bp3.set_ 0 (.int .i64 ((a : Int) + (X.size : Int)))
    refine g_one (i:=13) (by kernel_rfl) (by rfl) (fun K hK => ?_)
    go_simp
    refine hK.out _ _ (fun _ => HC.out _ hb4x) (fun _ => ?_)
    clear hK K
    refine g_done (by kernel_rfl) ⟨rfl,?_⟩ _
    go_wp2
    go_meet
    exact ⟨_,_,rfl,rfl,Lib.hid ⟨hb4x,bn4,bp4,gn,gp⟩⟩
   ·refine ⟨_,by rfl,fun K hK => ?_⟩
    go_simp
    have hc1 : Below W0.heap.size W0 ((w7_0).alloc (.cells #[.int .i64 0] 3)):=hc0.alloc hc0.size _
    have hy1 : Blk ((w7_0).alloc (.cells #[.int .i64 0] 3)) (w7_0.heap.size) 3 #[.int .i64 0]:=by
     have:=Blk.new (w7_0) 3 #[.int .i64 0]
     exact this
    have hge1 : W0.heap.size <= w7_0.heap.size:=by have:=(hc0).size; first | exact this | (simp only [World.size_alloc] at this; exact this)
    refine hK.out _ _ (fun _ => HC.out _ hc1) (fun _ => ?_)
    clear hK K
    refine g_one (i:=10) (by kernel_rfl) (by rfl) (fun K hK => ?_)
    go_simp
    have hc2 : Below W0.heap.size W0 (((w7_0).alloc (.cells #[.int .i64 0] 3)).alloc (.cells #[.int .i64 0,.string ⟨#[]⟩,.string ⟨#[]⟩,.slice none 0 0] 24)):=hc1.alloc hc1.size _
    have hznp2:=hy1.alloc (.cells #[.int .i64 0,.string ⟨#[]⟩,.string ⟨#[]⟩,.slice none 0 0] 24)
    have hy2 : Blk (((w7_0).alloc (.cells #[.int .i64 0] 3)).alloc (.cells #[.int .i64 0,.string ⟨#[]⟩,.string ⟨#[]⟩,.slice none 0 0] 24)) (w7_0.heap.size + 1) 24 #[.int .i64 0,.string ⟨#[]⟩,.string ⟨#[]⟩,.slice none 0 0]:=by
     have:=Blk.new ((w7_0).alloc (.cells #[.int .i64 0] 3)) 24 #[.int .i64 0,.string ⟨#[]⟩,.string ⟨#[]⟩,.slice none 0 0]
     rw [World.size_alloc] at this
     exact this
    have hge2 : W0.heap.size <= w7_0.heap.size + 1:=by have:=(hc1).size; first | exact this | (simp only [World.size_alloc] at this; exact this)
    refine hK.out _ _ (fun _ => HC.out _ hc2) (fun _ => ?_)
    clear hK K
    obtain ⟨WX,hWX⟩ : ∃ WX,((w7_0).alloc (.cells #[.int .i64 0] 3)).alloc (.cells #[.int .i64 0,.string ⟨#[]⟩,.string ⟨#[]⟩,.slice none 0 0] 24) = WX:=⟨_,rfl⟩
    have bn : Blk (((w7_0).alloc (.cells #[.int .i64 0] 3)).alloc (.cells #[.int .i64 0,.string ⟨#[]⟩,.string ⟨#[]⟩,.slice none 0 0] 24)) _ _ _:=hy2
    have bp : Blk (((w7_0).alloc (.cells #[.int .i64 0] 3)).alloc (.cells #[.int .i64 0,.string ⟨#[]⟩,.string ⟨#[]⟩,.slice none 0 0] 24)) _ _ _:=hznp2
    have gn : W0.heap.size <= w7_0.heap.size + 1:=hge2
    have gp : W0.heap.size <= w7_0.heap.size:=hge1
    have hbX : Below W0.heap.size W0 (((w7_0).alloc (.cells #[.int .i64 0] 3)).alloc (.cells #[.int .i64 0,.string ⟨#[]⟩,.string ⟨#[]⟩,.slice none 0 0] 24)):=hc2
    rw [hWX] at bn bp hbX ⊢
    obtain ⟨nb,hnb⟩ : ∃ nb,w7_0.heap.size + 1 = nb:=⟨_,rfl⟩
    replace bn : Blk WX nb 24 #[.int .i64 0,.string ⟨#[]⟩,.string ⟨#[]⟩,.slice none 0 0]:=by rw [<- hnb]; exact bn
    replace gn : W0.heap.size <= nb:=by rw [<- hnb]; exact gn
    rw [hnb]
    obtain ⟨np,hnpe⟩ : ∃ np,w7_0.heap.size = np:=⟨_,rfl⟩
    replace bp : Blk WX np 3 #[.int .i64 0]:=by rw [<- hnpe]; exact bp
    replace gp : W0.heap.size <= np:=by rw [<- hnpe]; exact gp
    rw [hnpe]
    have hnp : nb ≠ np:=fun e => by
     rw [e] at bn
     unfold Blk at bn bp
     rw [bp] at bn
     injection bn with bn
     injection bn with _ bn _
     exact absurd bn (by decide)
    clear hWX hnb hnpe
    have c0 : WX.cell? ⟨nb,0,none⟩ = some (.int .i64 0):=bn.cell 0
    have f0 : WX.frozen? ⟨nb,0,none⟩ = false:=bn.frozen 0
    have c1 : WX.cell? ⟨nb,1,none⟩ = some (.string ⟨#[]⟩):=bn.cell 1
    have f1 : WX.frozen? ⟨nb,1,none⟩ = false:=bn.frozen 1
    have c2 : WX.cell? ⟨nb,2,none⟩ = some (.string ⟨#[]⟩):=bn.cell 2
    have f2 : WX.frozen? ⟨nb,2,none⟩ = false:=bn.frozen 2
    have c3 : WX.cell? ⟨nb,3,none⟩ = some (.slice none 0 0):=bn.cell 3
    have f3 : WX.frozen? ⟨nb,3,none⟩ = false:=bn.frozen 3
    have ln:=bn.lt
    have hb0x:=hbX.setCell (p:=⟨nb,0,none⟩) gn (.int .i64 val.k)
    have bn0:=bn.set_ 0 (.int .i64 val.k)
    have bp0:=bp.far (p:=⟨nb,0,none⟩) (fun e => hnp e.symm) (.int .i64 val.k)
    have hb1x:=hb0x.setCell (p:=⟨nb,1,none⟩) gn (.string val.t)
    have bn1:=bn0.set_ 1 (.string val.t)
    have bp1:=bp0.far (p:=⟨nb,1,none⟩) (fun e => hnp e.symm) (.string val.t)
    have hb2x:=hb1x.setCell (p:=⟨nb,2,none⟩) gn (.string val.v)
    have bn2:=bn1.set_ 2 (.string val.v)
    have bp2:=bp1.far (p:=⟨nb,2,none⟩) (fun e => hnp e.symm) (.string val.v)
    have hb3x:=hb2x.setCell (p:=⟨nb,3,none⟩) gn (.slice B val.kids.length cB)
    have bn3:=bn2.set_ 3 (.slice B val.kids.length cB)
    have bp3:=bp2.far (p:=⟨nb,3,none⟩) (fun e => hnp e.symm) (.slice B val.kids.length cB)
    have HL:=Lib.hid (And.intro hb3x (And.intro bn3 bp3))
    clear hbX hb0x hb1x hb2x hb3x bn bn0 bn1 bn2 bn3 bp bp0 bp1 bp2 bp3
    refine g_one (i:=12) (by kernel_rfl) (by rfl) (fun K hK => ?_)
    go_simp
    refine hK.out _ _ (fun _ => HC.out _ HL.out.1) (fun _ => ?_)
    clear hK K c0 c1 c2 c3 f0 f1 f2 f3
    obtain ⟨hb3x,bn3,bp3⟩:=HL.out
    obtain ⟨WY,hWY⟩ : ∃ WY,(((WX.setCell ⟨nb,0,none⟩ (.int .i64 val.k)).setCell ⟨nb,1,none⟩ (.string val.t)).setCell ⟨nb,2,none⟩ (.string val.v)).setCell ⟨nb,3,none⟩ (.slice B val.kids.length cB) = WY:=⟨_,rfl⟩
    rw [hWY] at hb3x bn3 bp3 ⊢
    clear hWY HL
    have d0 : WY.cell? ⟨np,0,none⟩ = some (Value.int .i64 0):=bp3.cell 0
    have e0:=bp3.frozen 0
    have lp:=bp3.lt
    have hb4x:=hb3x.setCell (p:=⟨np,0,none⟩) gp (.int .i64 ((a : Int) + (X.size : Int)))
    have bn4:=bn3.far (p:=⟨np,0,none⟩) hnp (.int .i64 ((a : Int) + (X.size : Int)))
    have bp4:=bp3.set_ 0 (.int .i64 ((a : Int) + (X.size : Int)))
    refine g_one (i:=13) (by kernel_rfl) (by rfl) (fun K hK => ?_)
    go_simp
    refine hK.out _ _ (fun _ => HC.out _ hb4x) (fun _ => ?_)
    clear hK K
    refine g_done (by kernel_rfl) ⟨rfl,?_⟩ _
    go_wp2
    go_meet
    exact ⟨_,_,rfl,rfl,Lib.hid ⟨hb4x,bn4,bp4,gn,gp⟩⟩
  ·refine ⟨_,by rfl,fun K hK => ?_⟩
   go_simp
   have hc0 : Below W0.heap.size W0 ((W0).alloc (.cells #[.int .i64 0,.string ⟨#[]⟩,.string ⟨#[]⟩,.slice none 0 0] 24)):=hd0.alloc hd0.size _
   have hy0 : Blk ((W0).alloc (.cells #[.int .i64 0,.string ⟨#[]⟩,.string ⟨#[]⟩,.slice none 0 0] 24)) (W0.heap.size) 24 #[.int .i64 0,.string ⟨#[]⟩,.string ⟨#[]⟩,.slice none 0 0]:=by
    have:=Blk.new (W0) 24 #[.int .i64 0,.string ⟨#[]⟩,.string ⟨#[]⟩,.slice none 0 0]
    exact this
   have hge0 : W0.heap.size <= W0.heap.size:=by have:=(hd0).size; first | exact this | (simp only [World.size_alloc] at this; exact this)
   refine hK.out _ _ (fun _ => HC.out _ (below_drew hc0)) (fun _ => ?_)
   clear hK K
   refine g_all (rs:=[7,11]) (by kernel_rfl) (by simp) (fun i hi => ?_)
   simp only [List.mem_cons,List.not_mem_nil,or_false] at hi
   rcases hi with rfl | rfl
   ·refine ⟨_,by rfl,fun K hK => ?_⟩
    go_simp
    refine (hWd (((W0).alloc (.cells #[.int .i64 0,.string ⟨#[]⟩,.string ⟨#[]⟩,.slice none 0 0] 24)).drew)).mono ?_
    rintro e w7_1 ⟨rfl,hb7_1⟩
    have hc1:=(below_drew hc0).trans (hb7_1.mono (below_drew hc0).size)
    have hznb1:=Blk.below (Blk.drew hy0) hb7_1 (Blk.lt hy0)
    refine hK.out _ _ (fun _ => HC.out _ hc1) (fun _ => ?_)
    clear hK K
    have hH:=HC.out _ hc1
    refine g_take (i:=8) (v:=.int .i64 (X.size : Int)) (by rfl) (by kernel_rfl) (by kernel_rfl) (by kernel_rfl) (by kernel_rfl) (fun _ _ _ h => (by cases h.1)) (Or.inl ⟨by kernel_rfl,fun W hS => (by obtain ⟨s0,s1,s2,s3,s4,s5,s6⟩:=hS; go_simp)⟩) hH ?_
    simp only [Act.put,List.setIfInBounds_toArray,List.set_cons_zero,List.set_cons_succ]
    refine g_take (i:=9) (v:=.int .i64 ((a : Int) + (X.size : Int))) (by rfl) (by kernel_rfl) (by kernel_rfl) (by kernel_rfl) (by kernel_rfl) (fun _ _ _ h => (by cases h.1)) (Or.inl ⟨by kernel_rfl,fun W hS => (by obtain ⟨s0,s1,s2,s3,s4,s5,s6⟩:=hS; go_simp; exact IntWalk.i64_in _ (by omega))⟩) hH ?_
    simp only [Act.put,List.setIfInBounds_toArray,List.set_cons_zero,List.set_cons_succ]
    refine g_one (i:=11) (by kernel_rfl) (by rfl) (fun K hK => ?_)
    go_simp
    have hc2 : Below W0.heap.size W0 ((w7_1).alloc (.cells #[.int .i64 0] 3)):=hc1.alloc hc1.size _
    have hznb2:=hznb1.alloc (.cells #[.int .i64 0] 3)
    have hy2 : Blk ((w7_1).alloc (.cells #[.int .i64 0] 3)) (w7_1.heap.size) 3 #[.int .i64 0]:=by
     have:=Blk.new (w7_1) 3 #[.int .i64 0]
     exact this
    have hge2 : W0.heap.size <= w7_1.heap.size:=by have:=(hc1).size; first | exact this | (simp only [World.size_alloc] at this; exact this)
    refine hK.out _ _ (fun _ => HC.out _ hc2) (fun _ => ?_)
    clear hK K
    obtain ⟨WX,hWX⟩ : ∃ WX,(w7_1).alloc (.cells #[.int .i64 0] 3) = WX:=⟨_,rfl⟩
    have bn : Blk ((w7_1).alloc (.cells #[.int .i64 0] 3)) _ _ _:=hznb2
    have bp : Blk ((w7_1).alloc (.cells #[.int .i64 0] 3)) _ _ _:=hy2
    have gn : W0.heap.size <= W0.heap.size:=hge0
    have gp : W0.heap.size <= w7_1.heap.size:=hge2
    have hbX : Below W0.heap.size W0 ((w7_1).alloc (.cells #[.int .i64 0] 3)):=hc2
    rw [hWX] at bn bp hbX ⊢
    obtain ⟨nb,hnb⟩ : ∃ nb,W0.heap.size = nb:=⟨_,rfl⟩
    replace bn : Blk WX nb 24 #[.int .i64 0,.string ⟨#[]⟩,.string ⟨#[]⟩,.slice none 0 0]:=by rw [<- hnb]; exact bn
    replace gn : W0.heap.size <= nb:=by rw [<- hnb]; exact gn
    rw [hnb]
    obtain ⟨np,hnpe⟩ : ∃ np,w7_1.heap.size = np:=⟨_,rfl⟩
    replace bp : Blk WX np 3 #[.int .i64 0]:=by rw [<- hnpe]; exact bp
    replace gp : W0.heap.size <= np:=by rw [<- hnpe]; exact gp
    rw [hnpe]
    have hnp : nb ≠ np:=fun e => by
     rw [e] at bn
     unfold Blk at bn bp
     rw [bp] at bn
     injection bn with bn
     injection bn with _ bn _
     exact absurd bn (by decide)
    clear hWX hnb hnpe
    have c0 : WX.cell? ⟨nb,0,none⟩ = some (.int .i64 0):=bn.cell 0
    have f0 : WX.frozen? ⟨nb,0,none⟩ = false:=bn.frozen 0
    have c1 : WX.cell? ⟨nb,1,none⟩ = some (.string ⟨#[]⟩):=bn.cell 1
    have f1 : WX.frozen? ⟨nb,1,none⟩ = false:=bn.frozen 1
    have c2 : WX.cell? ⟨nb,2,none⟩ = some (.string ⟨#[]⟩):=bn.cell 2
    have f2 : WX.frozen? ⟨nb,2,none⟩ = false:=bn.frozen 2
    have c3 : WX.cell? ⟨nb,3,none⟩ = some (.slice none 0 0):=bn.cell 3
    have f3 : WX.frozen? ⟨nb,3,none⟩ = false:=bn.frozen 3
    have ln:=bn.lt
    have hb0x:=hbX.setCell (p:=⟨nb,0,none⟩) gn (.int .i64 val.k)
    have bn0:=bn.set_ 0 (.int .i64 val.k)
    have bp0:=bp.far (p:=⟨nb,0,none⟩) (fun e => hnp e.symm) (.int .i64 val.k)
    have hb1x:=hb0x.setCell (p:=⟨nb,1,none⟩) gn (.string val.t)
    have bn1:=bn0.set_ 1 (.string val.t)
    have bp1:=bp0.far (p:=⟨nb,1,none⟩) (fun e => hnp e.symm) (.string val.t)
    have hb2x:=hb1x.setCell (p:=⟨nb,2,none⟩) gn (.string val.v)
    have bn2:=bn1.set_ 2 (.string val.v)
    have bp2:=bp1.far (p:=⟨nb,2,none⟩) (fun e => hnp e.symm) (.string val.v)
    have hb3x:=hb2x.setCell (p:=⟨nb,3,none⟩) gn (.slice B val.kids.length cB)
    have bn3:=bn2.set_ 3 (.slice B val.kids.length cB)
    have bp3:=bp2.far (p:=⟨nb,3,none⟩) (fun e => hnp e.symm) (.slice B val.kids.length cB)
    have HL:=Lib.hid (And.intro hb3x (And.intro bn3 bp3))
    clear hbX hb0x hb1x hb2x hb3x bn bn0 bn1 bn2 bn3 bp bp0 bp1 bp2 bp3
    refine g_one (i:=12) (by kernel_rfl) (by rfl) (fun K hK => ?_)
    go_simp
    refine hK.out _ _ (fun _ => HC.out _ HL.out.1) (fun _ => ?_)
    clear hK K c0 c1 c2 c3 f0 f1 f2 f3
    obtain ⟨hb3x,bn3,bp3⟩:=HL.out
    obtain ⟨WY,hWY⟩ : ∃ WY,(((WX.setCell ⟨nb,0,none⟩ (.int .i64 val.k)).setCell ⟨nb,1,none⟩ (.string val.t)).setCell ⟨nb,2,none⟩ (.string val.v)).setCell ⟨nb,3,none⟩ (.slice B val.kids.length cB) = WY:=⟨_,rfl⟩
    rw [hWY] at hb3x bn3 bp3 ⊢
    clear hWY HL
    have d0 : WY.cell? ⟨np,0,none⟩ = some (Value.int .i64 0):=bp3.cell 0
    have e0:=bp3.frozen 0
    have lp:=bp3.lt
    have hb4x:=hb3x.setCell (p:=⟨np,0,none⟩) gp (.int .i64 ((a : Int) + (X.size : Int)))
    have bn4:=bn3.far (p:=⟨np,0,none⟩) hnp (.int .i64 ((a : Int) + (X.size : Int)))
    have bp4:=bp3.set_ 0 (.int .i64 ((a : Int) + (X.size : Int)))
    refine g_one (i:=13) (by kernel_rfl) (by rfl) (fun K hK => ?_)
    go_simp
    refine hK.out _ _ (fun _ => HC.out _ hb4x) (fun _ => ?_)
    clear hK K
    refine g_done (by kernel_rfl) ⟨rfl,?_⟩ _
    go_wp2
    go_meet
    exact ⟨_,_,rfl,rfl,Lib.hid ⟨hb4x,bn4,bp4,gn,gp⟩⟩
   ·refine ⟨_,by rfl,fun K hK => ?_⟩
    go_simp
    have hc1 : Below W0.heap.size W0 (((W0).alloc (.cells #[.int .i64 0,.string ⟨#[]⟩,.string ⟨#[]⟩,.slice none 0 0] 24)).alloc (.cells #[.int .i64 0] 3)):=hc0.alloc hc0.size _
    have hznb1:=hy0.alloc (.cells #[.int .i64 0] 3)
    have hy1 : Blk (((W0).alloc (.cells #[.int .i64 0,.string ⟨#[]⟩,.string ⟨#[]⟩,.slice none 0 0] 24)).alloc (.cells #[.int .i64 0] 3)) (W0.heap.size + 1) 3 #[.int .i64 0]:=by
     have:=Blk.new ((W0).alloc (.cells #[.int .i64 0,.string ⟨#[]⟩,.string ⟨#[]⟩,.slice none 0 0] 24)) 3 #[.int .i64 0]
     rw [World.size_alloc] at this
     exact this
    have hge1 : W0.heap.size <= W0.heap.size + 1:=by have:=(hc0).size; first | exact this | (simp only [World.size_alloc] at this; exact this)
    refine hK.out _ _ (fun _ => HC.out _ (below_drew hc1)) (fun _ => ?_)
    clear hK K
    refine g_one (i:=7) (by kernel_rfl) (by rfl) (fun K hK => ?_)
    go_simp
    refine (hWd ((((W0).alloc (.cells #[.int .i64 0,.string ⟨#[]⟩,.string ⟨#[]⟩,.slice none 0 0] 24)).alloc (.cells #[.int .i64 0] 3)).drew)).mono ?_
    rintro e w7_2 ⟨rfl,hb7_2⟩
    have hc2:=(below_drew hc1).trans (hb7_2.mono (below_drew hc1).size)
    have hznb2:=Blk.below (Blk.drew hznb1) hb7_2 (Blk.lt hznb1)
    have hznp2:=Blk.below (Blk.drew hy1) hb7_2 (Blk.lt hy1)
    refine hK.out _ _ (fun _ => HC.out _ hc2) (fun _ => ?_)
    clear hK K
    have hH:=HC.out _ hc2
    refine g_take (i:=8) (v:=.int .i64 (X.size : Int)) (by rfl) (by kernel_rfl) (by kernel_rfl) (by kernel_rfl) (by kernel_rfl) (fun _ _ _ h => (by cases h.1)) (Or.inl ⟨by kernel_rfl,fun W hS => (by obtain ⟨s0,s1,s2,s3,s4,s5,s6⟩:=hS; go_simp)⟩) hH ?_
    simp only [Act.put,List.setIfInBounds_toArray,List.set_cons_zero,List.set_cons_succ]
    refine g_take (i:=9) (v:=.int .i64 ((a : Int) + (X.size : Int))) (by rfl) (by kernel_rfl) (by kernel_rfl) (by kernel_rfl) (by kernel_rfl) (fun _ _ _ h => (by cases h.1)) (Or.inl ⟨by kernel_rfl,fun W hS => (by obtain ⟨s0,s1,s2,s3,s4,s5,s6⟩:=hS; go_simp; exact IntWalk.i64_in _ (by omega))⟩) hH ?_
    simp only [Act.put,List.setIfInBounds_toArray,List.set_cons_zero,List.set_cons_succ]
    obtain ⟨WX,hWX⟩ : ∃ WX,w7_2 = WX:=⟨_,rfl⟩
    have bn : Blk (w7_2) _ _ _:=hznb2
    have bp : Blk (w7_2) _ _ _:=hznp2
    have gn : W0.heap.size <= W0.heap.size:=hge0
    have gp : W0.heap.size <= W0.heap.size + 1:=hge1
    have hbX : Below W0.heap.size W0 (w7_2):=hc2
    rw [hWX] at bn bp hbX ⊢
    obtain ⟨np,hnpe⟩ : ∃ np,W0.heap.size + 1 = np:=⟨_,rfl⟩
    replace bp : Blk WX np 3 #[.int .i64 0]:=by rw [<- hnpe]; exact bp
    replace gp : W0.heap.size <= np:=by rw [<- hnpe]; exact gp
    rw [hnpe]
    obtain ⟨nb,hnb⟩ : ∃ nb,W0.heap.size = nb:=⟨_,rfl⟩
    replace bn : Blk WX nb 24 #[.int .i64 0,.string ⟨#[]⟩,.string ⟨#[]⟩,.slice none 0 0]:=by rw [<- hnb]; exact bn
    replace gn : W0.heap.size <= nb:=by rw [<- hnb]; exact gn
    rw [hnb]
    have hnp : nb ≠ np:=fun e => by
     rw [e] at bn
     unfold Blk at bn bp
     rw [bp] at bn
     injection bn with bn
     injection bn with _ bn _
     exact absurd bn (by decide)
    clear hWX hnb hnpe
    have c0 : WX.cell? ⟨nb,0,none⟩ = some (.int .i64 0):=bn.cell 0
    have f0 : WX.frozen? ⟨nb,0,none⟩ = false:=bn.frozen 0
    have c1 : WX.cell? ⟨nb,1,none⟩ = some (.string ⟨#[]⟩):=bn.cell 1
    have f1 : WX.frozen? ⟨nb,1,none⟩ = false:=bn.frozen 1
    have c2 : WX.cell? ⟨nb,2,none⟩ = some (.string ⟨#[]⟩):=bn.cell 2
    have f2 : WX.frozen? ⟨nb,2,none⟩ = false:=bn.frozen 2
    have c3 : WX.cell? ⟨nb,3,none⟩ = some (.slice none 0 0):=bn.cell 3
    have f3 : WX.frozen? ⟨nb,3,none⟩ = false:=bn.frozen 3
    have ln:=bn.lt
    have hb0x:=hbX.setCell (p:=⟨nb,0,none⟩) gn (.int .i64 val.k)
    have bn0:=bn.set_ 0 (.int .i64 val.k)
    have bp0:=bp.far (p:=⟨nb,0,none⟩) (fun e => hnp e.symm) (.int .i64 val.k)
    have hb1x:=hb0x.setCell (p:=⟨nb,1,none⟩) gn (.string val.t)
    have bn1:=bn0.set_ 1 (.string val.t)
    have bp1:=bp0.far (p:=⟨nb,1,none⟩) (fun e => hnp e.symm) (.string val.t)
    have hb2x:=hb1x.setCell (p:=⟨nb,2,none⟩) gn (.string val.v)
    have bn2:=bn1.set_ 2 (.string val.v)
    have bp2:=bp1.far (p:=⟨nb,2,none⟩) (fun e => hnp e.symm) (.string val.v)
    have hb3x:=hb2x.setCell (p:=⟨nb,3,none⟩) gn (.slice B val.kids.length cB)
    have bn3:=bn2.set_ 3 (.slice B val.kids.length cB)
    have bp3:=bp2.far (p:=⟨nb,3,none⟩) (fun e => hnp e.symm) (.slice B val.kids.length cB)
    have HL:=Lib.hid (And.intro hb3x (And.intro bn3 bp3))
    clear hbX hb0x hb1x hb2x hb3x bn bn0 bn1 bn2 bn3 bp bp0 bp1 bp2 bp3
    refine g_one (i:=12) (by kernel_rfl) (by rfl) (fun K hK => ?_)
    go_simp
    refine hK.out _ _ (fun _ => HC.out _ HL.out.1) (fun _ => ?_)
    clear hK K c0 c1 c2 c3 f0 f1 f2 f3
    obtain ⟨hb3x,bn3,bp3⟩:=HL.out
    obtain ⟨WY,hWY⟩ : ∃ WY,(((WX.setCell ⟨nb,0,none⟩ (.int .i64 val.k)).setCell ⟨nb,1,none⟩ (.string val.t)).setCell ⟨nb,2,none⟩ (.string val.v)).setCell ⟨nb,3,none⟩ (.slice B val.kids.length cB) = WY:=⟨_,rfl⟩
    rw [hWY] at hb3x bn3 bp3 ⊢
    clear hWY HL
    have d0 : WY.cell? ⟨np,0,none⟩ = some (Value.int .i64 0):=bp3.cell 0
    have e0:=bp3.frozen 0
    have lp:=bp3.lt
    have hb4x:=hb3x.setCell (p:=⟨np,0,none⟩) gp (.int .i64 ((a : Int) + (X.size : Int)))
    have bn4:=bn3.far (p:=⟨np,0,none⟩) hnp (.int .i64 ((a : Int) + (X.size : Int)))
    have bp4:=bp3.set_ 0 (.int .i64 ((a : Int) + (X.size : Int)))
    refine g_one (i:=13) (by kernel_rfl) (by rfl) (fun K hK => ?_)
    go_simp
    refine hK.out _ _ (fun _ => HC.out _ hb4x) (fun _ => ?_)
    clear hK K
    refine g_done (by kernel_rfl) ⟨rfl,?_⟩ _
    go_wp2
    go_meet
    exact ⟨_,_,rfl,rfl,Lib.hid ⟨hb4x,bn4,bp4,gn,gp⟩⟩
  ·refine ⟨_,by rfl,fun K hK => ?_⟩
   go_simp
   have hc0 : Below W0.heap.size W0 ((W0).alloc (.cells #[.int .i64 0] 3)):=hd0.alloc hd0.size _
   have hy0 : Blk ((W0).alloc (.cells #[.int .i64 0] 3)) (W0.heap.size) 3 #[.int .i64 0]:=by
    have:=Blk.new (W0) 3 #[.int .i64 0]
    exact this
   have hge0 : W0.heap.size <= W0.heap.size:=by have:=(hd0).size; first | exact this | (simp only [World.size_alloc] at this; exact this)
   refine hK.out _ _ (fun _ => HC.out _ (below_drew hc0)) (fun _ => ?_)
   clear hK K
   refine g_all (rs:=[7,10]) (by kernel_rfl) (by simp) (fun i hi => ?_)
   simp only [List.mem_cons,List.not_mem_nil,or_false] at hi
   rcases hi with rfl | rfl
   ·refine ⟨_,by rfl,fun K hK => ?_⟩
    go_simp
    refine (hWd (((W0).alloc (.cells #[.int .i64 0] 3)).drew)).mono ?_
    rintro e w7_1 ⟨rfl,hb7_1⟩
    have hc1:=(below_drew hc0).trans (hb7_1.mono (below_drew hc0).size)
    have hznp1:=Blk.below (Blk.drew hy0) hb7_1 (Blk.lt hy0)
    refine hK.out _ _ (fun _ => HC.out _ hc1) (fun _ => ?_)
    clear hK K
    have hH:=HC.out _ hc1
    refine g_take (i:=8) (v:=.int .i64 (X.size : Int)) (by rfl) (by kernel_rfl) (by kernel_rfl) (by kernel_rfl) (by kernel_rfl) (fun _ _ _ h => (by cases h.1)) (Or.inl ⟨by kernel_rfl,fun W hS => (by obtain ⟨s0,s1,s2,s3,s4,s5,s6⟩:=hS; go_simp)⟩) hH ?_
    simp only [Act.put,List.setIfInBounds_toArray,List.set_cons_zero,List.set_cons_succ]
    refine g_take (i:=9) (v:=.int .i64 ((a : Int) + (X.size : Int))) (by rfl) (by kernel_rfl) (by kernel_rfl) (by kernel_rfl) (by kernel_rfl) (fun _ _ _ h => (by cases h.1)) (Or.inl ⟨by kernel_rfl,fun W hS => (by obtain ⟨s0,s1,s2,s3,s4,s5,s6⟩:=hS; go_simp; exact IntWalk.i64_in _ (by omega))⟩) hH ?_
    simp only [Act.put,List.setIfInBounds_toArray,List.set_cons_zero,List.set_cons_succ]
    refine g_one (i:=10) (by kernel_rfl) (by rfl) (fun K hK => ?_)
    go_simp
    have hc2 : Below W0.heap.size W0 ((w7_1).alloc (.cells #[.int .i64 0,.string ⟨#[]⟩,.string ⟨#[]⟩,.slice none 0 0] 24)):=hc1.alloc hc1.size _
    have hznp2:=hznp1.alloc (.cells #[.int .i64 0,.string ⟨#[]⟩,.string ⟨#[]⟩,.slice none 0 0] 24)
    have hy2 : Blk ((w7_1).alloc (.cells #[.int .i64 0,.string ⟨#[]⟩,.string ⟨#[]⟩,.slice none 0 0] 24)) (w7_1.heap.size) 24 #[.int .i64 0,.string ⟨#[]⟩,.string ⟨#[]⟩,.slice none 0 0]:=by
     have:=Blk.new (w7_1) 24 #[.int .i64 0,.string ⟨#[]⟩,.string ⟨#[]⟩,.slice none 0 0]
     exact this
    have hge2 : W0.heap.size <= w7_1.heap.size:=by have:=(hc1).size; first | exact this | (simp only [World.size_alloc] at this; exact this)
    refine hK.out _ _ (fun _ => HC.out _ hc2) (fun _ => ?_)
    clear hK K
    obtain ⟨WX,hWX⟩ : ∃ WX,(w7_1).alloc (.cells #[.int .i64 0,.string ⟨#[]⟩,.string ⟨#[]⟩,.slice none 0 0] 24) = WX:=⟨_,rfl⟩
    have bn : Blk ((w7_1).alloc (.cells #[.int .i64 0,.string ⟨#[]⟩,.string ⟨#[]⟩,.slice none 0 0] 24)) _ _ _:=hy2
    have bp : Blk ((w7_1).alloc (.cells #[.int .i64 0,.string ⟨#[]⟩,.string ⟨#[]⟩,.slice none 0 0] 24)) _ _ _:=hznp2
    have gn : W0.heap.size <= w7_1.heap.size:=hge2
    have gp : W0.heap.size <= W0.heap.size:=hge0
    have hbX : Below W0.heap.size W0 ((w7_1).alloc (.cells #[.int .i64 0,.string ⟨#[]⟩,.string ⟨#[]⟩,.slice none 0 0] 24)):=hc2
    rw [hWX] at bn bp hbX ⊢
    obtain ⟨nb,hnb⟩ : ∃ nb,w7_1.heap.size = nb:=⟨_,rfl⟩
    replace bn : Blk WX nb 24 #[.int .i64 0,.string ⟨#[]⟩,.string ⟨#[]⟩,.slice none 0 0]:=by rw [<- hnb]; exact bn
    replace gn : W0.heap.size <= nb:=by rw [<- hnb]; exact gn
    rw [hnb]
    obtain ⟨np,hnpe⟩ : ∃ np,W0.heap.size = np:=⟨_,rfl⟩
    replace bp : Blk WX np 3 #[.int .i64 0]:=by rw [<- hnpe]; exact bp
    replace gp : W0.heap.size <= np:=by rw [<- hnpe]; exact gp
    rw [hnpe]
    have hnp : nb ≠ np:=fun e => by
     rw [e] at bn
     unfold Blk at bn bp
     rw [bp] at bn
     injection bn with bn
     injection bn with _ bn _
     exact absurd bn (by decide)
    clear hWX hnb hnpe
    have c0 : WX.cell? ⟨nb,0,none⟩ = some (.int .i64 0):=bn.cell 0
    have f0 : WX.frozen? ⟨nb,0,none⟩ = false:=bn.frozen 0
    have c1 : WX.cell? ⟨nb,1,none⟩ = some (.string ⟨#[]⟩):=bn.cell 1
    have f1 : WX.frozen? ⟨nb,1,none⟩ = false:=bn.frozen 1
    have c2 : WX.cell? ⟨nb,2,none⟩ = some (.string ⟨#[]⟩):=bn.cell 2
    have f2 : WX.frozen? ⟨nb,2,none⟩ = false:=bn.frozen 2
    have c3 : WX.cell? ⟨nb,3,none⟩ = some (.slice none 0 0):=bn.cell 3
    have f3 : WX.frozen? ⟨nb,3,none⟩ = false:=bn.frozen 3
    have ln:=bn.lt
    have hb0x:=hbX.setCell (p:=⟨nb,0,none⟩) gn (.int .i64 val.k)
    have bn0:=bn.set_ 0 (.int .i64 val.k)
    have bp0:=bp.far (p:=⟨nb,0,none⟩) (fun e => hnp e.symm) (.int .i64 val.k)
    have hb1x:=hb0x.setCell (p:=⟨nb,1,none⟩) gn (.string val.t)
    have bn1:=bn0.set_ 1 (.string val.t)
    have bp1:=bp0.far (p:=⟨nb,1,none⟩) (fun e => hnp e.symm) (.string val.t)
    have hb2x:=hb1x.setCell (p:=⟨nb,2,none⟩) gn (.string val.v)
    have bn2:=bn1.set_ 2 (.string val.v)
    have bp2:=bp1.far (p:=⟨nb,2,none⟩) (fun e => hnp e.symm) (.string val.v)
    have hb3x:=hb2x.setCell (p:=⟨nb,3,none⟩) gn (.slice B val.kids.length cB)
    have bn3:=bn2.set_ 3 (.slice B val.kids.length cB)
    have bp3:=bp2.far (p:=⟨nb,3,none⟩) (fun e => hnp e.symm) (.slice B val.kids.length cB)
    have HL:=Lib.hid (And.intro hb3x (And.intro bn3 bp3))
    clear hbX hb0x hb1x hb2x hb3x bn bn0 bn1 bn2 bn3 bp bp0 bp1 bp2 bp3
    refine g_one (i:=12) (by kernel_rfl) (by rfl) (fun K hK => ?_)
    go_simp
    refine hK.out _ _ (fun _ => HC.out _ HL.out.1) (fun _ => ?_)
    clear hK K c0 c1 c2 c3 f0 f1 f2 f3
    obtain ⟨hb3x,bn3,bp3⟩:=HL.out
    obtain ⟨WY,hWY⟩ : ∃ WY,(((WX.setCell ⟨nb,0,none⟩ (.int .i64 val.k)).setCell ⟨nb,1,none⟩ (.string val.t)).setCell ⟨nb,2,none⟩ (.string val.v)).setCell ⟨nb,3,none⟩ (.slice B val.kids.length cB) = WY:=⟨_,rfl⟩
    rw [hWY] at hb3x bn3 bp3 ⊢
    clear hWY HL
    have d0 : WY.cell? ⟨np,0,none⟩ = some (Value.int .i64 0):=bp3.cell 0
    have e0:=bp3.frozen 0
    have lp:=bp3.lt
    have hb4x:=hb3x.setCell (p:=⟨np,0,none⟩) gp (.int .i64 ((a : Int) + (X.size : Int)))
    have bn4:=bn3.far (p:=⟨np,0,none⟩) hnp (.int .i64 ((a : Int) + (X.size : Int)))
    have bp4:=bp3.set_ 0 (.int .i64 ((a : Int) + (X.size : Int)))
    refine g_one (i:=13) (by kernel_rfl) (by rfl) (fun K hK => ?_)
    go_simp
    refine hK.out _ _ (fun _ => HC.out _ hb4x) (fun _ => ?_)
    clear hK K
    refine g_done (by kernel_rfl) ⟨rfl,?_⟩ _
    go_wp2
    go_meet
    exact ⟨_,_,rfl,rfl,Lib.hid ⟨hb4x,bn4,bp4,gn,gp⟩⟩
   ·refine ⟨_,by rfl,fun K hK => ?_⟩
    go_simp
    have hc1 : Below W0.heap.size W0 (((W0).alloc (.cells #[.int .i64 0] 3)).alloc (.cells #[.int .i64 0,.string ⟨#[]⟩,.string ⟨#[]⟩,.slice none 0 0] 24)):=hc0.alloc hc0.size _
    have hznp1:=hy0.alloc (.cells #[.int .i64 0,.string ⟨#[]⟩,.string ⟨#[]⟩,.slice none 0 0] 24)
    have hy1 : Blk (((W0).alloc (.cells #[.int .i64 0] 3)).alloc (.cells #[.int .i64 0,.string ⟨#[]⟩,.string ⟨#[]⟩,.slice none 0 0] 24)) (W0.heap.size + 1) 24 #[.int .i64 0,.string ⟨#[]⟩,.string ⟨#[]⟩,.slice none 0 0]:=by
     have:=Blk.new ((W0).alloc (.cells #[.int .i64 0] 3)) 24 #[.int .i64 0,.string ⟨#[]⟩,.string ⟨#[]⟩,.slice none 0 0]
     rw [World.size_alloc] at this
     exact this
    have hge1 : W0.heap.size <= W0.heap.size + 1:=by have:=(hc0).size; first | exact this | (simp only [World.size_alloc] at this; exact this)
    refine hK.out _ _ (fun _ => HC.out _ (below_drew hc1)) (fun _ => ?_)
    clear hK K
    refine g_one (i:=7) (by kernel_rfl) (by rfl) (fun K hK => ?_)
    go_simp
    refine (hWd ((((W0).alloc (.cells #[.int .i64 0] 3)).alloc (.cells #[.int .i64 0,.string ⟨#[]⟩,.string ⟨#[]⟩,.slice none 0 0] 24)).drew)).mono ?_
    rintro e w7_2 ⟨rfl,hb7_2⟩
    have hc2:=(below_drew hc1).trans (hb7_2.mono (below_drew hc1).size)
    have hznp2:=Blk.below (Blk.drew hznp1) hb7_2 (Blk.lt hznp1)
    have hznb2:=Blk.below (Blk.drew hy1) hb7_2 (Blk.lt hy1)
    refine hK.out _ _ (fun _ => HC.out _ hc2) (fun _ => ?_)
    clear hK K
    have hH:=HC.out _ hc2
    refine g_take (i:=8) (v:=.int .i64 (X.size : Int)) (by rfl) (by kernel_rfl) (by kernel_rfl) (by kernel_rfl) (by kernel_rfl) (fun _ _ _ h => (by cases h.1)) (Or.inl ⟨by kernel_rfl,fun W hS => (by obtain ⟨s0,s1,s2,s3,s4,s5,s6⟩:=hS; go_simp)⟩) hH ?_
    simp only [Act.put,List.setIfInBounds_toArray,List.set_cons_zero,List.set_cons_succ]
    refine g_take (i:=9) (v:=.int .i64 ((a : Int) + (X.size : Int))) (by rfl) (by kernel_rfl) (by kernel_rfl) (by kernel_rfl) (by kernel_rfl) (fun _ _ _ h => (by cases h.1)) (Or.inl ⟨by kernel_rfl,fun W hS => (by obtain ⟨s0,s1,s2,s3,s4,s5,s6⟩:=hS; go_simp; exact IntWalk.i64_in _ (by omega))⟩) hH ?_
    simp only [Act.put,List.setIfInBounds_toArray,List.set_cons_zero,List.set_cons_succ]
    obtain ⟨WX,hWX⟩ : ∃ WX,w7_2 = WX:=⟨_,rfl⟩
    have bn : Blk (w7_2) _ _ _:=hznb2
    have bp : Blk (w7_2) _ _ _:=hznp2
    have gn : W0.heap.size <= W0.heap.size + 1:=hge1
    have gp : W0.heap.size <= W0.heap.size:=hge0
    have hbX : Below W0.heap.size W0 (w7_2):=hc2
    rw [hWX] at bn bp hbX ⊢
    obtain ⟨nb,hnb⟩ : ∃ nb,W0.heap.size + 1 = nb:=⟨_,rfl⟩
    replace bn : Blk WX nb 24 #[.int .i64 0,.string ⟨#[]⟩,.string ⟨#[]⟩,.slice none 0 0]:=by rw [<- hnb]; exact bn
    replace gn : W0.heap.size <= nb:=by rw [<- hnb]; exact gn
    rw [hnb]
    obtain ⟨np,hnpe⟩ : ∃ np,W0.heap.size = np:=⟨_,rfl⟩
    replace bp : Blk WX np 3 #[.int .i64 0]:=by rw [<- hnpe]; exact bp
    replace gp : W0.heap.size <= np:=by rw [<- hnpe]; exact gp
    rw [hnpe]
    have hnp : nb ≠ np:=fun e => by
     rw [e] at bn
     unfold Blk at bn bp
     rw [bp] at bn
     injection bn with bn
     injection bn with _ bn _
     exact absurd bn (by decide)
    clear hWX hnb hnpe
    have c0 : WX.cell? ⟨nb,0,none⟩ = some (.int .i64 0):=bn.cell 0
    have f0 : WX.frozen? ⟨nb,0,none⟩ = false:=bn.frozen 0
    have c1 : WX.cell? ⟨nb,1,none⟩ = some (.string ⟨#[]⟩):=bn.cell 1
    have f1 : WX.frozen? ⟨nb,1,none⟩ = false:=bn.frozen 1
    have c2 : WX.cell? ⟨nb,2,none⟩ = some (.string ⟨#[]⟩):=bn.cell 2
    have f2 : WX.frozen? ⟨nb,2,none⟩ = false:=bn.frozen 2
    have c3 : WX.cell? ⟨nb,3,none⟩ = some (.slice none 0 0):=bn.cell 3
    have f3 : WX.frozen? ⟨nb,3,none⟩ = false:=bn.frozen 3
    have ln:=bn.lt
    have hb0x:=hbX.setCell (p:=⟨nb,0,none⟩) gn (.int .i64 val.k)
    have bn0:=bn.set_ 0 (.int .i64 val.k)
    have bp0:=bp.far (p:=⟨nb,0,none⟩) (fun e => hnp e.symm) (.int .i64 val.k)
    have hb1x:=hb0x.setCell (p:=⟨nb,1,none⟩) gn (.string val.t)
    have bn1:=bn0.set_ 1 (.string val.t)
    have bp1:=bp0.far (p:=⟨nb,1,none⟩) (fun e => hnp e.symm) (.string val.t)
    have hb2x:=hb1x.setCell (p:=⟨nb,2,none⟩) gn (.string val.v)
    have bn2:=bn1.set_ 2 (.string val.v)
    have bp2:=bp1.far (p:=⟨nb,2,none⟩) (fun e => hnp e.symm) (.string val.v)
    have hb3x:=hb2x.setCell (p:=⟨nb,3,none⟩) gn (.slice B val.kids.length cB)
    have bn3:=bn2.set_ 3 (.slice B val.kids.length cB)
    have bp3:=bp2.far (p:=⟨nb,3,none⟩) (fun e => hnp e.symm) (.slice B val.kids.length cB)
    have HL:=Lib.hid (And.intro hb3x (And.intro bn3 bp3))
    clear hbX hb0x hb1x hb2x hb3x bn bn0 bn1 bn2 bn3 bp bp0 bp1 bp2 bp3
    refine g_one (i:=12) (by kernel_rfl) (by rfl) (fun K hK => ?_)
    go_simp
    refine hK.out _ _ (fun _ => HC.out _ HL.out.1) (fun _ => ?_)
    clear hK K c0 c1 c2 c3 f0 f1 f2 f3
    obtain ⟨hb3x,bn3,bp3⟩:=HL.out
    obtain ⟨WY,hWY⟩ : ∃ WY,(((WX.setCell ⟨nb,0,none⟩ (.int .i64 val.k)).setCell ⟨nb,1,none⟩ (.string val.t)).setCell ⟨nb,2,none⟩ (.string val.v)).setCell ⟨nb,3,none⟩ (.slice B val.kids.length cB) = WY:=⟨_,rfl⟩
    rw [hWY] at hb3x bn3 bp3 ⊢
    clear hWY HL
    have d0 : WY.cell? ⟨np,0,none⟩ = some (Value.int .i64 0):=bp3.cell 0
    have e0:=bp3.frozen 0
    have lp:=bp3.lt
    have hb4x:=hb3x.setCell (p:=⟨np,0,none⟩) gp (.int .i64 ((a : Int) + (X.size : Int)))
    have bn4:=bn3.far (p:=⟨np,0,none⟩) hnp (.int .i64 ((a : Int) + (X.size : Int)))
    have bp4:=bp3.set_ 0 (.int .i64 ((a : Int) + (X.size : Int)))
    refine g_one (i:=13) (by kernel_rfl) (by rfl) (fun K hK => ?_)
    go_simp
    refine hK.out _ _ (fun _ => HC.out _ hb4x) (fun _ => ?_)
    clear hK K
    refine g_done (by kernel_rfl) ⟨rfl,?_⟩ _
    go_wp2
    go_meet
    exact ⟨_,_,rfl,rfl,Lib.hid ⟨hb4x,bn4,bp4,gn,gp⟩⟩
 case rest =>
  obtain ⟨nb,np,rfl,rfl,HH⟩:=hcut
  obtain ⟨hbc,bn,bp,gn,gp⟩:=HH.out
  have hbw:=al.trans (hbc.mono al.size)
  have hgl:=hi.own
  have hsl:=hi.lt
  have hals:=al.size
  have hi1:=hi.below hbw
  have Bn : Bes s g wc nb 24 #[.int .i64 val.k,.string val.t,.string val.v,.slice B val.kids.length cB]:=⟨bn,by omega,fun e => by have:=(hgl _ e.symm).2; omega⟩
  have Bp : Bes s g wc np 3 #[.int .i64 ((a : Int) + (X.size : Int))]:=⟨bp,by omega,fun e => by have:=(hgl _ e.symm).2; omega⟩
  have hdl:=h3.1.lt
  have hnd : nb ≠ d:=by omega
  have hpd : np ≠ d:=by omega
  have Bs:=h1.below hbw
  have Bd:=h3.below hbw
  have Bf:=bX.below hbc
  have hfd : w.heap.size ≠ d:=by omega
  have hnv : NAt (fun b _ => b < s) wc val B cB:=hn1.low (fun q hq => hbc.block q (by omega))
  have hAc:=hA.lowb hi hbw
  have hsv : sizeN val + 1 <= sizeN f:=by
   obtain ⟨k,t,v,l⟩:=f
   simp only [Nd.kids] at hval
   subst hval
   simp [sizeN,sizeL]
   omega
  have hov : okC val:=ho.kid (by rw [hval]; simp)
  have hg0 : f.kids.getD 0 dNd = val:=by rw [hval]; rfl
  have hBK:=brk_any val _ B cB wc hnv
  obtain ⟨x0,x1,x2,x3⟩:=nbox' Bn
  have hbad : badS (.scf a dj) f = if 0 < brk val then decide (160 < a + wordN f + brk val) else dj || (!elemN f && decide (160 < (rowN f).length)):=by
   show (if 0 < brk (f.kids.getD 0 dNd) then _ else _) = _
   rw [hg0]
  have HDE : Hid (deepF f = decide (0 < brk val)):=Lib.hid (by unfold deepF; rw [hg0])
  have hsw:=HSZ.out
  have hb4 : brk val <= 4:=by unfold brk; split <;> (try split) <;> omega
  have hTL:=fun (W : World) (h : Below wc.heap.size wc W) => toolong_any f _ c W ((hAc.below h).weaken fun b _ hb => Nat.lt_of_lt_of_le (Nat.lt_trans hb hi1.lt) h.size) ho.2.1 ho.2.2 hz
  have fvals:=fun j (h : j < f.kids.length) => (show j = 0 by rw [hlen1] at h; omega)
  unfold ndVal at hBK
  go_wp2_with fail
  refine hBK.mono ?_
  rintro e w2 ⟨rfl,hb2⟩
  have hbw2:=hbw.trans (hb2.mono hbw.size)
  have Bs2:=Bs.below hb2
  have Bd2:=Bd.below hb2
  have Bp2:=Bp.below hb2
  have Bf2:=Bf.below hb2
  have hi2:=hi1.below hb2
  by_cases hk0 : 0 < brk val
  case pos =>
   rw [if_pos hk0] at hbad
   obtain rfl : DB = true:=by rw [<- HDB.out,HDE.out,decide_eq_true hk0,Bool.or_true]
   have hvk2 : val.k = 7 \/ rowsB val = true:=by
    unfold brk at hk0
    split at hk0
    ·exact .inl ‹_›
    ·split at hk0
     ·exact .inr ‹_›
     ·omega
   have hi3:=hi2.set Bd2.2.1 Bd2.2.2 (.bool true)
   have F3 : FrD s d g w (w2.setCell ⟨d,0,none⟩ (.bool true)) g:=(FrD.of_below hbw2).set (.bool true)
   have D3 : Bes s g (w2.setCell ⟨d,0,none⟩ (.bool true)) d 4 #[.bool true]:=⟨Bd2.1.set_ 0 (.bool true),Bd2.2⟩
   have S3:=Bs2.far hd2 (.bool true)
   have P3:=Bp2.far hpd (.bool true)
   have X3:=Bf2.far hfd (.bool true)
   have hA3 : NAt (fun b _ => b < s) (w2.setCell ⟨d,0,none⟩ (.bool true)) f (some ⟨b,o,none⟩) c:=(hAc.lowb hi1 hb2).low (fun q hq => Below.heap_setCell w2 ⟨d,0,none⟩ _ q (by show q ≠ d; omega))
   have c0 : w2.cell? ⟨d,0,none⟩ = some (.bool dj):=sbox' Bd2
   have f0:=Bd2.1.frozen 0
   have ld:=Bd2.1.lt
   have s3:=sbox' S3
   have p3:=sbox' P3
   have hK : badS (.scf a dj) f = false -> Calls Tryz.prog 84 #[.pointer (some ⟨s,0,none⟩),.agg #[.int .i64 8,.string f.t,.string f.v,.slice (some ⟨b,o,none⟩) 1 c],.func (.func 122) #[] #[.pointer (some ⟨b1,0,none⟩),.pointer (some ⟨np,0,none⟩)]] (w2.setCell ⟨d,0,none⟩ (.bool true)) (DPost s d path g w (srN badS nextS f (.scf a dj)) true):=fun hb0 => by
    rw [srN_good _ _ hb0]
    have hkv:=kids_vis (.scf a dj) s path g f _ c _ hi3 hA3 hlen 122 #[] #[.pointer (some ⟨b1,0,none⟩),.pointer (some ⟨np,0,none⟩)] (fun _ _ => rfl) (fun j h w1 g1 B1 cB1 k1 k2 k3 k4 => by
     obtain rfl:=fvals j h
     rw [hg0] at k3 k4 ⊢
     have hnx : nextS (.scf a dj) f 0 = .scr (a + wordN f + 1):=by show (if 0 < brk (f.kids.getD 0 dNd) then _ else _) = _; rw [hg0,if_pos hk0]
     rw [hnx]
     have P4:=P3.fr k2
     have e1 : ((a : Int) + (X.size : Int)) = ((a + wordN f : Nat) : Int):=by omega
     rw [e1] at P4
     have:=fval_vis val (hT val (by rw [hval]; simp)) (a + wordN f) (by omega) hov (by omega) hvk2 s _ g1 b1 np B1 cB1 w1 k1 k3 k4 (S3.fr k2) P4
     simpa using this)
    unfold ndVal at hkv
    rw [hlen1,hkf] at hkv
    exact hkv.mono fun e w' h => DPost.of_v hi F3 D3 hds h
   have hRy:=refuse_yes s path g _ hi3
   have HRE : Hid (badS (.scf a dj) f = true -> ∀ w1 v',ORow w1 (s + 1) 3 v' (pV path) -> Below (w2.setCell ⟨d,0,none⟩ (.bool true)).heap.size (w2.setCell ⟨d,0,none⟩ (.bool true)) w1 -> DPost s d path g w (srN badS nextS f (.scf a dj)) true (.panicked (foundP v')) w1):=Lib.hid fun hb w1 v' ho h => DPost.refuse hi hb F3 hds ho h
   have y0 : (w2.setCell ⟨d,0,none⟩ (.bool true)).cell? ⟨w.heap.size,0,none⟩ = some (.int .i64 8):=X3.1.cell 0
   have y1 : (w2.setCell ⟨d,0,none⟩ (.bool true)).cell? ⟨w.heap.size,1,none⟩ = some (.string f.t):=X3.1.cell 1
   have y2 : (w2.setCell ⟨d,0,none⟩ (.bool true)).cell? ⟨w.heap.size,2,none⟩ = some (.string f.v):=X3.1.cell 2
   have y3 : (w2.setCell ⟨d,0,none⟩ (.bool true)).cell? ⟨w.heap.size,3,none⟩ = some (.slice (some ⟨b,o,none⟩) 1 c):=X3.1.cell 3
   rw [hbad] at hK HRE
   have hLd : (160 < a + wordN f + brk val) = (160 < (a : Int) + (X.size : Int) + (brk val : Int)):=by
    apply propext
    omega
   generalize srN badS nextS f (.scf a dj) = R at *
   generalize brk val = bk at *
   obtain ⟨WD,hWD⟩ : ∃ WD,w2.setCell ⟨d,0,none⟩ (.bool true) = WD:=⟨_,rfl⟩
   have hRn:=refuse_no s WD
   have hbk0 : (0 : Int) < (bk : Int):=by omega
   rw [hWD] at hK HRE hRy s3 p3 y0 y1 y2 y3
   by_cases hL : 160 < a + wordN f + bk
   case pos =>
    have hL2 : (160 : Int) < (a : Int) + (X.size : Int) + (bk : Int):=by rw [<- hLd]; exact hL
    have HRE2:=Lib.hid (HRE.out (decide_eq_true hL))
    have hLB : decide ((160 : Int) < (a : Int) + (X.size : Int) + (bk : Int)) = true:=decide_eq_true hL2
    clear hL2 hsw
    clear HRE hK hRn hTL hBK hb2 hbw hbw2 hi1 hi2 hi3 F3 D3 S3 P3 X3 Bs Bd Bf Bs2 Bd2 Bp2 Bf2 Bn Bp hA3 hbad HDE HDB hgl hbc hT ho hov hnv hAc hi hA al bX hn1 h1 h2 h3 HH x0 x1 x2 x3 hLd cells hrk hkid hWd fvals
    go_wp2_with fail
    refine hRy.mono ?_
    rintro e w5 ⟨u,rfl,ho5,hb5⟩
    exact ⟨rfl,HRE2.out w5 u ho5 hb5⟩
   case neg =>
    have hL2 : ¬ (160 : Int) < (a : Int) + (X.size : Int) + (bk : Int):=by rw [<- hLd]; exact hL
    have hK2:=hK (decide_eq_false hL)
    have hLB : decide ((160 : Int) < (a : Int) + (X.size : Int) + (bk : Int)) = false:=decide_eq_false hL2
    clear hL2 hsw
    clear HRE hK hRy hTL hBK hb2 hbw hbw2 hi1 hi2 hi3 F3 D3 S3 P3 X3 Bs Bd Bf Bs2 Bd2 Bp2 Bf2 Bn Bp hA3 hbad HDE HDB hgl hbc hT ho hov hnv hAc hi hA al bX hn1 h1 h2 h3 HH x0 x1 x2 x3 hLd cells hrk hkid hWd fvals
    go_wp2_with fail
    refine hRn.mono ?_
    rintro e w5 ⟨rfl,rfl⟩
    go_wp2_with fail
    refine hK2.mono ?_
    intro e w6 h2
    rcases h2.cases_ with ⟨rfl,h3⟩ | ⟨u,rfl,h3⟩
    ·clear h2 hK2
     go_wp2
     go_end0
     exact h3
    ·exact ⟨rfl,h3⟩
  case neg =>
   rw [if_neg hk0] at hbad
   have hbk0 : brk val = 0:=by omega
   rw [hbk0]
   have hDB : DB = dj:=by rw [<- HDB.out,HDE.out,decide_eq_false hk0,Bool.or_false]
   have F2 : FrD s d g w w2 g:=FrD.of_below hbw2
   have cells2 : ∀ W,Below w2.heap.size w2 W -> W.cell? ⟨b1,0,none⟩ = some (.pointer (some ⟨s,0,none⟩)) /\ W.cell? ⟨d,0,none⟩ = some (.bool dj) /\ W.cell? ⟨w.heap.size,0,none⟩ = some (.int .i64 8) /\ W.cell? ⟨w.heap.size,1,none⟩ = some (.string f.t) /\ W.cell? ⟨w.heap.size,2,none⟩ = some (.string f.v) /\ W.cell? ⟨w.heap.size,3,none⟩ = some (.slice (some ⟨b,o,none⟩) 1 c):=fun W h => by
    have X3:=Bf2.below h
    exact ⟨sbox' (Bs2.below h),sbox' (Bd2.below h),X3.1.cell 0,X3.1.cell 1,X3.1.cell 2,X3.1.cell 3⟩
   have HC2:=Lib.hid cells2
   have HRE : Hid (∀ W,Below w2.heap.size w2 W -> badS (.scf a dj) f = true -> ∀ w1 v',ORow w1 (s + 1) 3 v' (pV path) -> Below W.heap.size W w1 -> DPost s d path g w (srN badS nextS f (.scf a dj)) DB (.panicked (foundP v')) w1):=Lib.hid fun W h0 hb w1 v' ho h => DPost.refuse hi hb (FrD.of_below (hbw2.trans (h0.mono hbw2.size))) hds ho h
   have hRy:=fun (W : World) (h : Below w2.heap.size w2 W) => refuse_yes s path g W (hi2.below h)
   have hA2:=hAc.lowb hi1 hb2
   have HK : Hid (∀ W,Below w2.heap.size w2 W -> badS (.scf a dj) f = false -> Calls Tryz.prog 84 #[.pointer (some ⟨s,0,none⟩),.agg #[.int .i64 8,.string f.t,.string f.v,.slice (some ⟨b,o,none⟩) 1 c],.func (.func 125) #[.pointer (some ⟨s,0,none⟩)] #[]] W (DPost s d path g w (srN badS nextS f (.scf a dj)) dj)):=Lib.hid fun W h0 hb0 => by
    rw [srN_good _ _ hb0]
    have hkv:=kids_vis (.scf a dj) s path g f _ c W (hi2.below h0) (hA2.lowb hi2 h0) hlen 125 #[.pointer (some ⟨s,0,none⟩)] #[] (fun _ _ => rfl) (fun j h w1 g1 B1 cB1 k1 k2 k3 k4 => by
     obtain rfl:=fvals j h
     rw [hg0] at k3 k4 ⊢
     have hnx : nextS (.scf a dj) f 0 = .scl:=by show (if 0 < brk (f.kids.getD 0 dNd) then _ else _) = _; rw [hg0,if_neg hk0]
     rw [hnx,vis_app]
     exact flat_vis val s _ g1 B1 cB1 w1 k1 k3 k4)
    unfold ndVal at hkv
    rw [hlen1,hkf] at hkv
    exact hkv.mono fun e w' h => DPost.of_v hi (FrD.of_below (hbw2.trans (h0.mono hbw2.size))) (Bd2.below h0) hds h
   have HTL : Hid (∀ W,Below w2.heap.size w2 W -> Calls Tryz.prog 124 #[.agg #[.int .i64 8,.string f.t,.string f.v,.slice (some ⟨b,o,none⟩) 1 c]] W fun e w' => e = .returned (.bool (!elemN f && decide (160 < (rowN f).length))) /\ Below W.heap.size W w'):=Lib.hid fun W h => by
    have:=hTL W (hb2.trans (h.mono hb2.size))
    unfold ndVal at this
    rw [hlen1,hkf] at this
    exact this
   rw [hbad] at HRE HK
   subst hDB
   generalize srN badS nextS f (.scf a DB) = R at *
   generalize (!elemN f && decide (160 < (rowN f).length)) = TL at *
   clear hTL hBK hb2 hbw hbw2 hi1 hi2 Bs Bd Bf Bs2 Bd2 Bp2 Bf2 Bn Bp hbad HDE HDB hgl hbc hT ho hov hnv hAc hi hA al bX hn1 h1 h2 h3 HH x0 x1 x2 x3 cells hrk hkid hWd fvals F2 cells2 hA2 hk0 hbk0
   go_wp2
   have hdr : Below w2.heap.size w2 w2.drew:=below_drew (Below.refl _ _)
   refine region_gp [] (S:=(fun W => W.cell? ⟨b1,0,none⟩ = some (.pointer (some ⟨s,0,none⟩)) /\ W.cell? ⟨d,0,none⟩ = some (.bool DB) /\ W.cell? ⟨w.heap.size,0,none⟩ = some (.int .i64 8) /\ W.cell? ⟨w.heap.size,1,none⟩ = some (.string f.t) /\ W.cell? ⟨w.heap.size,2,none⟩ = some (.string f.v) /\ W.cell? ⟨w.heap.size,3,none⟩ = some (.slice (some ⟨b,o,none⟩) 1 c))) (fun c w' => DPost s d path g w R DB (.panicked c) w') (by kernel_rfl) (HC2.out _ hdr) (fun c a' w' hd hR => ⟨hd,hR⟩) (fun hH => ?_)
   cases DB with
   | true =>
    clear HTL HK
    refine g_take (i:=0) (v:=.pointer (some ⟨s,0,none⟩)) (by rfl) (by kernel_rfl) (by kernel_rfl) (by kernel_rfl) (by kernel_rfl) (fun _ _ _ h => pan_put h) (Or.inl ⟨by kernel_rfl,fun W hS => (by obtain ⟨s0,s1,s2,s3,s4,s5⟩:=hS; go_simp)⟩) hH ?_
    simp only [Act.put,List.setIfInBounds_toArray,List.set_cons_zero,List.set_cons_succ]
    refine g_take (i:=1) (v:=.bool true) (by rfl) (by kernel_rfl) (by kernel_rfl) (by kernel_rfl) (by kernel_rfl) (fun _ _ _ h => pan_put h) (Or.inl ⟨by kernel_rfl,fun W hS => (by obtain ⟨s0,s1,s2,s3,s4,s5⟩:=hS; go_simp)⟩) hH ?_
    simp only [Act.put,List.setIfInBounds_toArray,List.set_cons_zero,List.set_cons_succ]
    refine g_take (i:=2) (v:=.bool true) (by rfl) (by kernel_rfl) (by kernel_rfl) (by kernel_rfl) (by kernel_rfl) (fun _ _ _ h => pan_put h) (Or.inl ⟨by kernel_rfl,fun W hS => (by obtain ⟨s0,s1,s2,s3,s4,s5⟩:=hS; go_simp)⟩) hH ?_
    simp only [Act.put,List.setIfInBounds_toArray,List.set_cons_zero,List.set_cons_succ]
    refine g_take (i:=3) (v:=undef) (by rfl) (by kernel_rfl) (by kernel_rfl) (by kernel_rfl) (by kernel_rfl) (fun _ _ _ h => pan_put h) (Or.inr ⟨by kernel_rfl,rfl⟩) hH ?_
    simp only [Act.put,List.setIfInBounds_toArray,List.set_cons_zero,List.set_cons_succ]
    refine g_take (i:=4) (v:=undef) (by rfl) (by kernel_rfl) (by kernel_rfl) (by kernel_rfl) (by kernel_rfl) (fun _ _ _ h => pan_put h) (Or.inr ⟨by kernel_rfl,rfl⟩) hH ?_
    simp only [Act.put,List.setIfInBounds_toArray,List.set_cons_zero,List.set_cons_succ]
    refine g_take (i:=5) (v:=.bool true) (by rfl) (by kernel_rfl) (by kernel_rfl) (by kernel_rfl) (by kernel_rfl) (fun _ _ _ h => pan_put h) (Or.inl ⟨by kernel_rfl,fun W hS => (by obtain ⟨s0,s1,s2,s3,s4,s5⟩:=hS; go_simp)⟩) hH ?_
    simp only [Act.put,List.setIfInBounds_toArray,List.set_cons_zero,List.set_cons_succ]
    refine g_one (i:=6) (by kernel_rfl) (by rfl) (fun K hK => ?_)
    go_simp
    refine (hRy _ hdr).mono ?_
    rintro e w5 ⟨u,rfl,ho5,hb5⟩
    exact .inr ⟨_,rfl,HRE.out _ hdr rfl w5 u ho5 hb5,rfl⟩
   | false =>
    refine g_take (i:=0) (v:=.pointer (some ⟨s,0,none⟩)) (by rfl) (by kernel_rfl) (by kernel_rfl) (by kernel_rfl) (by kernel_rfl) (fun _ _ _ h => pan_put h) (Or.inl ⟨by kernel_rfl,fun W hS => (by obtain ⟨s0,s1,s2,s3,s4,s5⟩:=hS; go_simp)⟩) hH ?_
    simp only [Act.put,List.setIfInBounds_toArray,List.set_cons_zero,List.set_cons_succ]
    refine g_take (i:=1) (v:=.bool false) (by rfl) (by kernel_rfl) (by kernel_rfl) (by kernel_rfl) (by kernel_rfl) (fun _ _ _ h => pan_put h) (Or.inl ⟨by kernel_rfl,fun W hS => (by obtain ⟨s0,s1,s2,s3,s4,s5⟩:=hS; go_simp)⟩) hH ?_
    simp only [Act.put,List.setIfInBounds_toArray,List.set_cons_zero,List.set_cons_succ]
    refine g_take (i:=2) (v:=.bool false) (by rfl) (by kernel_rfl) (by kernel_rfl) (by kernel_rfl) (by kernel_rfl) (fun _ _ _ h => pan_put h) (Or.inl ⟨by kernel_rfl,fun W hS => (by obtain ⟨s0,s1,s2,s3,s4,s5⟩:=hS; go_simp)⟩) hH ?_
    simp only [Act.put,List.setIfInBounds_toArray,List.set_cons_zero,List.set_cons_succ]
    refine g_take (i:=3) (v:=.agg #[.int .i64 8,.string f.t,.string f.v,.slice (some ⟨b,o,none⟩) 1 c]) (by rfl) (by kernel_rfl) (by kernel_rfl) (by kernel_rfl) (by kernel_rfl) (fun _ _ _ h => pan_put h) (Or.inl ⟨by kernel_rfl,fun W hS => (by obtain ⟨s0,s1,s2,s3,s4,s5⟩:=hS; go_simp)⟩) hH ?_
    simp only [Act.put,List.setIfInBounds_toArray,List.set_cons_zero,List.set_cons_succ]
    refine g_one (i:=4) (by kernel_rfl) (by rfl) (fun K hK => ?_)
    go_simp
    refine (HTL.out _ hdr).mono ?_
    rintro e w4 ⟨rfl,hb4x⟩
    have hb24:=hdr.trans hb4x
    refine hK.out _ _ (fun _ => HC2.out _ hb24) (fun _ => ?_)
    clear hK K hH hb4x HTL
    have hH:=HC2.out _ hb24
    cases TL with
    | true =>
     clear HK
     refine g_take (i:=5) (v:=.bool true) (by rfl) (by kernel_rfl) (by kernel_rfl) (by kernel_rfl) (by kernel_rfl) (fun _ _ _ h => pan_put h) (Or.inl ⟨by kernel_rfl,fun W hS => (by obtain ⟨s0,s1,s2,s3,s4,s5⟩:=hS; go_simp)⟩) hH ?_
     simp only [Act.put,List.setIfInBounds_toArray,List.set_cons_zero,List.set_cons_succ]
     refine g_one (i:=6) (by kernel_rfl) (by rfl) (fun K hK => ?_)
     go_simp
     refine (hRy _ hb24).mono ?_
     rintro e w5 ⟨u,rfl,ho5,hb5⟩
     exact .inr ⟨_,rfl,HRE.out _ hb24 rfl w5 u ho5 hb5,rfl⟩
    | false =>
     have hK2:=HK.out _ hb24 rfl
     clear HRE HK hRy
     refine g_take (i:=5) (v:=.bool false) (by rfl) (by kernel_rfl) (by kernel_rfl) (by kernel_rfl) (by kernel_rfl) (fun _ _ _ h => pan_put h) (Or.inl ⟨by kernel_rfl,fun W hS => (by obtain ⟨s0,s1,s2,s3,s4,s5⟩:=hS; go_simp)⟩) hH ?_
     simp only [Act.put,List.setIfInBounds_toArray,List.set_cons_zero,List.set_cons_succ]
     refine g_one (i:=6) (by kernel_rfl) (by rfl) (fun K hK => ?_)
     go_simp
     refine (refuse_no s w4).mono ?_
     rintro e w5 ⟨rfl,rfl⟩
     refine hK.out _ _ (fun _ => hH) (fun _ => ?_)
     clear hK K
     refine g_done (by kernel_rfl) (.inl ⟨by first | rfl | trivial,?_⟩) _
     obtain ⟨s0,s1,s2,s3,s4,s5⟩:=hH
     clear HC2 hb24 hdr
     go_wp2_with fail
     refine hK2.mono ?_
     intro e w6 h2
     rcases h2.cases_ with ⟨rfl,h3⟩ | ⟨u,rfl,h3⟩
     ·clear h2 hK2
      go_wp2
      go_end0
      exact h3
     ·exact ⟨rfl,h3⟩
end Go.Proofs.YtbnppjmmlfncmaaGreatDoor
