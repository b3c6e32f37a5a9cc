/-
  carry: the search of sections: tables.
  carry: the search of angle.
-/
import Derived.Test.YtbnppjmmlfncmaaGreatDoorCsA38
import Derived.Test.YtbnppjmmlfncmaaGreatDoorCsA37
set_option maxRecDepth 100000
set_option linter.unusedSimpArgs false
set_option linter.unusedVariables false
namespace Go.Proofs.YtbnppjmmlfncmaaGreatDoor
open Go.RowKit Go.Maps
theorem size_mem {n m : Nd} (h : m ∈ n.kids) : sizeN m < sizeN n:=by
 obtain ⟨k,t,v,l⟩:=n
 have:=sizeL_mem h
 simp only [Nd.kids] at this
 simp only [sizeN]
 omega
theorem bound_kid {a x y : Nat} (h : a + x * 2000000 <= 1000000000000) (hs : y < x) : a + y * 2000000 <= 1000000000000:=Nat.le_trans (Nat.add_le_add_left (Nat.mul_le_mul_right _ (Nat.le_of_lt hs)) _) h
theorem kid_mem {l : List Nd} {j : Nat} (h : j < l.length) : l.getD j dNd ∈ l:=by rw [getDn h]; exact List.getElem_mem h
set_option maxHeartbeats 8000000 in
theorem tab_step (n : Nd) (IH : ∀ m,sizeN m < sizeN n -> TbsAt m) : TabAt n:=by
 intro a ha ho hz hk s path g A c w hi hA hlen
 have al1 : Below w.heap.size w (w.alloc (.cells #[.pointer (some ⟨s,0,none⟩)] 51)):=(Below.refl _ _).alloc (Nat.le_refl _) _
 have al2:=al1.alloc (by simp) (.cells #[.int .i64 n.k,.string n.t,.string n.v,.slice A n.kids.length c] 24)
 have al3:=al2.alloc (by simp; omega) (.cells #[.int .i64 (a : Int)] 3)
 have al:=al3.alloc (by simp; omega) (.cells #[.bool false] 4)
 have b1:=(((Bes.new hi 51 #[.pointer (some ⟨s,0,none⟩)]).below (al_nd _ #[.int .i64 n.k,.string n.t,.string n.v,.slice A n.kids.length c])).below ((Below.refl _ _).alloc (Nat.le_refl _) (.cells #[.int .i64 (a : Int)] 3))).below ((Below.refl _ _).alloc (Nat.le_refl _) (.cells #[.bool false] 4))
 have b2:=((Bes.new (hi.below al1) 24 #[.int .i64 n.k,.string n.t,.string n.v,.slice A n.kids.length c]).below ((Below.refl _ _).alloc (Nat.le_refl _) (.cells #[.int .i64 (a : Int)] 3))).below ((Below.refl _ _).alloc (Nat.le_refl _) (.cells #[.bool false] 4))
 have b3:=(Bes.new (hi.below al2) 3 #[.int .i64 (a : Int)]).below ((Below.refl _ _).alloc (Nat.le_refl _) (.cells #[.bool false] 4))
 have b4:=Bes.new (hi.below al3) 4 #[.bool false]
 rw [World.size_alloc] at b2
 rw [World.size_alloc,World.size_alloc] at b3
 rw [World.size_alloc,World.size_alloc,World.size_alloc] at b4
 obtain ⟨W0,hW0⟩ : ∃ W0,(((w.alloc (.cells #[.pointer (some ⟨s,0,none⟩)] 51)).alloc (.cells #[.int .i64 n.k,.string n.t,.string n.v,.slice A n.kids.length c] 24)).alloc (.cells #[.int .i64 (a : Int)] 3)).alloc (.cells #[.bool false] 4) = W0:=⟨_,rfl⟩
 rw [hW0] at al b1 b2 b3 b4
 have hi1:=hi.below al
 have hA1:=hA.lowb hi al
 have hsl:=hi.lt
 have hll : n.kids.length <= 1000000:=by
  obtain ⟨k,t,v,l⟩:=n
  have:=sizeL_len l
  simp only [sizeN] at hz
  simp only [Nd.kids]
  omega
 have hpl : path.length <= 100000:=by omega
 have hK:=kids_deep s (w.heap.size + 3) (by omega) (fun j => (n.kids.take j).any deepF) path g n.k n.t n.v n.kids A c W0 hi1 b4 (by rw [<- Nd.eta]; exact hA1) hpl hll 120 #[] #[.pointer (some ⟨w.heap.size + 2,0,none⟩),.pointer (some ⟨w.heap.size + 3,0,none⟩),.pointer (some ⟨w.heap.size,0,none⟩)] (fun _ _ => rfl)
  (fun j m => srN badS nextS m (nextS (.sct a) n j)) (restS (.sct a) n) (fun j h => restS_at (.sct a) n j h) (restS_end (.sct a) n) (fun j h w1 g1 B cB k1 k2 k3 k4 => by
   have hmem:=kid_mem h
   have hkk : (n.kids.getD j dNd).k = 8:=(ho.1.head.2.2.2.1 hk).1 _ hmem
   have hsm:=size_mem hmem
   have hnx : nextS (.sct a) n j = .scf a ((n.kids.take j).any deepF):=rfl
   have hdj : (n.kids.take (j + 1)).any deepF = ((n.kids.take j).any deepF || deepF (n.kids.getD j dNd)):=by rw [any_snoc deepF n.kids j h,getDn h]
   show Calls _ _ _ _ (DPost s (w.heap.size + 3) (path ++ [j]) g1 w1 (srN badS nextS (n.kids.getD j dNd) (nextS (.sct a) n j)) ((n.kids.take (j + 1)).any deepF))
   rw [hnx,hdj]
   have:=fld_vis (n.kids.getD j dNd) (fun m hm => IH m (Nat.lt_trans (size_mem hm) hsm)) hkk a (bound_kid ha hsm) (ho.kid hmem) (Nat.le_trans (Nat.le_of_lt hsm) hz) s (w.heap.size + 3) (Nat.lt_of_lt_of_le hsl (Nat.le_add_right _ _)) ((n.kids.take j).any deepF) (path ++ [j]) g1 (w.heap.size + 2) w.heap.size B cB w1 k1 k4 (by simp only [List.length_append,List.length_cons,List.length_nil]; omega) (by omega) (by omega) (b1.frd (by omega) k2) (b3.frd (by omega) k2) k3
   unfold ndVal at this
   simpa using this)
 have HP : Hid (∀ e w',DPost s (w.heap.size + 3) path g W0 (restS (.sct a) n 0) ((n.kids.take n.kids.length).any deepF) e w' -> VPost s path g w (srN badS nextS n (.sct a)) e w'):=Lib.hid fun e w' h => by
  rw [srN_good (.sct a) n rfl]
  rcases h with ⟨q1,q2,g',q3,q4,_⟩ | ⟨q,v,q1,q2,q3,q4⟩
  ·exact .inl ⟨q1,q2,g',q3,q4.shut al (Nat.le_add_right _ _)⟩
  ·exact .inr ⟨q,v,q1,q2,q3,(al.mono (Nat.le_of_lt hsl)).trans q4⟩
 have s1:=sbox' b1
 obtain ⟨x0,x1,x2,x3⟩:=nbox' b2
 have hK2:=hK.mono (fun e w' h => HP.out e w' h)
 unfold ndVal
 simp only [List.append_toArray,List.cons_append,List.nil_append]
 generalize srN badS nextS n (.sct a) = R at *
 clear hi hi1 hA hA1 b1 b2 b3 b4 al al1 al2 al3 ho IH hK HP hk
 subst hW0
 go_enter Tryz.func89,Tryz.ntmps89
 go_wp2_with fail
 refine hK2.mono ?_
 intro e w1 h2
 rcases h2.cases_ with ⟨_,rfl,h3⟩ | ⟨u,rfl,h3⟩
 ·clear h2 hK2
  go_wp2
  go_end0
  exact h3
 ·exact ⟨rfl,h3⟩
set_option maxHeartbeats 8000000 in
theorem trow_vis (n : Nd) (hT : TabAt n) (a : Nat) (ha : a + sizeN n * 2000000 <= 1000000000000) (ho : okC n) (hz : sizeN n <= 90000) (hk : n.k = 7) (s : Nat) (path : List Nat) (g : Option Nat) (b1 b2 : Nat) (A : Option Addr) (c : Nat) (w : World) (hi : SI s w path g) (hA : NAt (fun b _ => b < s) w n A c) (hlen : path.length + sizeN n <= 100000)
 (h1 : Bes s g w b1 51 #[.pointer (some ⟨s,0,none⟩)]) (h2 : Bes s g w b2 3 #[.int .i64 (a : Int)]) :
 Calls Tryz.prog 155 #[ndVal n A c,.pointer (some ⟨b1,0,none⟩),.pointer (some ⟨b2,0,none⟩)] w (VPost s path g w (srN badS nextS n (.sct a))):=by
 have al:=al_nd w #[.int .i64 n.k,.string n.t,.string n.v,.slice A n.kids.length c]
 have HI:=Lib.hid hi
 have hi1:=hi.below al
 have s0:=sbox' (h1.below al)
 have s1:=sbox' (h2.below al)
 have HF : Hid (FrS s g w _ g):=Lib.hid (FrS.of_below al)
 obtain ⟨x0,x1,x2,x3⟩:=nbox (Blk.new w 24 #[.int .i64 n.k,.string n.t,.string n.v,.slice A n.kids.length c])
 have hK:=hT a ha ho hz hk s path g A c _ hi1 (hA.lowb hi al) hlen
 unfold ndVal at hK ⊢
 simp only [List.append_toArray,List.cons_append,List.nil_append] at hK
 generalize srN badS nextS n (.sct a) = R at *
 clear hi hi1 h1 h2 hA al hT ho hk
 go_enter Tryz.func155,Tryz.ntmps155
 go_wp2_with fail
 refine hK.mono ?_
 intro e w1 h
 have h2:=VPost.pre HI.out HF.out h
 rcases h2.cases_ with ⟨_,rfl,h3⟩ | ⟨u,rfl,h3⟩
 ·clear h h2 hK
  go_wp2
  go_end0
  exact h3
 ·exact ⟨rfl,h3⟩
set_option maxHeartbeats 8000000 in
theorem tbs_step (n : Nd) (hT : TabAt n) (hR : ∀ m ∈ n.kids,TabAt m) : TbsAt n:=by
 intro a ha ho hz hk s path g A c w hi hA hlen
 have al1 : Below w.heap.size w (w.alloc (.cells #[.pointer (some ⟨s,0,none⟩)] 51)):=(Below.refl _ _).alloc (Nat.le_refl _) _
 have al2:=al1.alloc (by simp) (.cells #[.int .i64 n.k,.string n.t,.string n.v,.slice A n.kids.length c] 24)
 have al:=al2.alloc (by simp; omega) (.cells #[.int .i64 (a : Int)] 3)
 have b1:=((Bes.new hi 51 #[.pointer (some ⟨s,0,none⟩)]).below (al_nd _ #[.int .i64 n.k,.string n.t,.string n.v,.slice A n.kids.length c])).below ((Below.refl _ _).alloc (Nat.le_refl _) (.cells #[.int .i64 (a : Int)] 3))
 have b2:=(Bes.new (hi.below al1) 24 #[.int .i64 n.k,.string n.t,.string n.v,.slice A n.kids.length c]).below ((Below.refl _ _).alloc (Nat.le_refl _) (.cells #[.int .i64 (a : Int)] 3))
 have b3:=Bes.new (hi.below al2) 3 #[.int .i64 (a : Int)]
 rw [World.size_alloc] at b2
 rw [World.size_alloc,World.size_alloc] at b3
 obtain ⟨W0,hW0⟩ : ∃ W0,((w.alloc (.cells #[.pointer (some ⟨s,0,none⟩)] 51)).alloc (.cells #[.int .i64 n.k,.string n.t,.string n.v,.slice A n.kids.length c] 24)).alloc (.cells #[.int .i64 (a : Int)] 3) = W0:=⟨_,rfl⟩
 rw [hW0] at al b1 b2 b3
 have hi1:=hi.below al
 have hA1:=hA.lowb hi al
 have HI:=Lib.hid hi
 have HF : Hid (FrS s g w W0 g):=Lib.hid (FrS.of_below al)
 have s1:=sbox' b1
 have s3:=sbox' b3
 obtain ⟨x0,x1,x2,x3⟩:=nbox' b2
 by_cases hk7 : n.k = 7
 case pos =>
  have hnx : nextS (.scr a) n = nextS (.sct a) n:=by
   funext j
   show (if n.k = 7 then _ else _) = _
   rw [if_pos hk7]
   rfl
  have hr : srN badS nextS n (.scr a) = srN badS nextS n (.sct a):=by
   rw [srN_good (.scr a) n rfl,srN_good (.sct a) n rfl]
   unfold restS
   rw [hnx]
  rw [hr]
  have hK:=hT a ha ho hz hk7 s path g A c W0 hi1 hA1 hlen
  unfold ndVal at hK ⊢
  simp only [List.append_toArray,List.cons_append,List.nil_append] at hK ⊢
  generalize srN badS nextS n (.sct a) = R at *
  rw [hk7] at x0 hK hW0 ⊢
  clear hi hi1 hA hA1 b1 b2 b3 al al1 al2 ho hT hR hk hr hnx hk7
  go_enter Tryz.func123,Tryz.ntmps123
  go_wp2_with fail
  refine hK.mono ?_
  intro e w1 h
  have h2:=VPost.pre HI.out HF.out h
  rcases h2.cases_ with ⟨_,rfl,h3⟩ | ⟨u,rfl,h3⟩
  ·clear h h2 hK
   go_wp2
   go_end0
   exact h3
  ·exact ⟨rfl,h3⟩
 case neg =>
  have hrows : rowsB n = true:=by
   rcases hk with h | h
   ·exact absurd h hk7
   ·exact h
  have hall : ∀ m ∈ n.kids,m.k = 7:=by
   unfold rowsB at hrows
   simp only [Bool.and_eq_true,List.all_eq_true,decide_eq_true_iff] at hrows
   exact hrows.2.2
  rw [srN_good (.scr a) n rfl]
  have hK:=kids_vis (.scr a) s path g n A c W0 hi1 hA1 hlen 155 #[] #[.pointer (some ⟨w.heap.size,0,none⟩),.pointer (some ⟨w.heap.size + 2,0,none⟩)] (fun _ _ => rfl) (fun j h w1 g1 B cB k1 k2 k3 k4 => by
   have hmem:=kid_mem h
   have hsm:=size_mem hmem
   have hnx : nextS (.scr a) n j = .sct a:=by show (if n.k = 7 then _ else _) = _; rw [if_neg hk7]
   rw [hnx]
   have:=trow_vis (n.kids.getD j dNd) (hR _ hmem) a (bound_kid ha hsm) (ho.kid hmem) (Nat.le_trans (Nat.le_of_lt hsm) hz) (hall _ hmem) s _ g1 w.heap.size (w.heap.size + 2) B cB w1 k1 k3 k4 (b1.fr k2) (b3.fr k2)
   simpa using this)
  have z1:=ibeq hk7
  unfold ndVal at hK ⊢
  simp only [List.append_toArray,List.cons_append,List.nil_append] at hK ⊢
  generalize restS (.scr a) n 0 = R at *
  generalize n.k = k at *
  clear hi hi1 hA hA1 b1 b2 b3 al al1 al2 ho hT hR hk hk7 hrows hall
  go_enter Tryz.func123,Tryz.ntmps123
  go_wp2_with fail
  refine hK.mono ?_
  intro e w1 h
  have h2:=VPost.pre HI.out HF.out h
  rcases h2.cases_ with ⟨_,rfl,h3⟩ | ⟨u,rfl,h3⟩
  ·clear h h2 hK
   go_wp2
   go_end0
   exact h3
  ·exact ⟨rfl,h3⟩
theorem tab_all (n : Nd) : TabAt n /\ TbsAt n:=by
 generalize hN : sizeN n = N
 induction N using Nat.strongRecOn generalizing n with
 | ind N ih =>
  have hT : TabAt n:=tab_step n (fun m hm => (ih _ (by omega) m rfl).2)
  exact ⟨hT,tbs_step n hT (fun m hm => (ih _ (by have:=size_mem hm; omega) m rfl).1)⟩
set_option maxHeartbeats 8000000 in
theorem sect_vis (n : Nd) (ho : okC n) (hz : sizeN n <= 90000) : VisAt 50 #[] .sc0 n:=by
 intro s path g A c w hi hA hlen
 have al:=al_nd w #[.int .i64 n.k,.string n.t,.string n.v,.slice A n.kids.length c]
 have hi1:=hi.below al
 have HF : Hid (FrS s g w _ g):=Lib.hid (FrS.of_below al)
 have HI:=Lib.hid hi
 obtain ⟨x0,x1,x2,x3⟩:=nbox (Blk.new w 24 #[.int .i64 n.k,.string n.t,.string n.v,.slice A n.kids.length c])
 by_cases hk : n.k = 7
 case neg =>
  have hb : badS .sc0 n = true:=by simp [badS,hk]
  have hR:=refuse_yes s path g _ hi1
  have HE : Hid (∀ w1 v,ORow w1 (s + 1) 3 v (pV path) -> Below _ _ w1 -> VPost s path g w (srN badS nextS n .sc0) (.panicked (foundP v)) w1):=Lib.hid fun w1 v ho h => refuse_end hi hb al ho h
  have z1:=ibne hk
  have z2:=ibeq hk
  generalize srN badS nextS n .sc0 = R at *
  unfold ndVal
  generalize n.k = k at *
  clear hk hb hi hi1 hA ho
  go_enter Tryz.func50,Tryz.ntmps50
  go_wp2_with fail
  refine hR.mono ?_
  rintro e w1 ⟨u,rfl,ho,hb⟩
  exact ⟨rfl,HE.out w1 u ho hb⟩
 case pos =>
  have hr : srN badS nextS n .sc0 = srN badS nextS n (.sct 0):=by
   rw [srN_good .sc0 n (by simp [badS,hk]),srN_good (.sct 0) n rfl]
   rfl
  rw [hr]
  have hR:=refuse_no s
  have hK:=(tab_all n).1 0 (by omega) ho hz hk s path g A c _ hi1 (hA.lowb hi al) hlen
  unfold ndVal at hK ⊢
  simp only [List.append_toArray,List.cons_append,List.nil_append] at hK ⊢
  generalize srN badS nextS n (.sct 0) = R at *
  rw [hk] at x0 hK HF ⊢
  clear hi hi1 hA al ho hr hk
  go_enter Tryz.func50,Tryz.ntmps50
  go_wp2_with fail
  refine (hR _).mono ?_
  rintro e w1 ⟨rfl,rfl⟩
  clear hR
  go_wp2_with fail
  refine hK.mono ?_
  intro e w1 h
  have h2:=VPost.pre HI.out HF.out h
  rcases h2.cases_ with ⟨_,rfl,h3⟩ | ⟨u,rfl,h3⟩
  ·clear h h2 hK
   go_wp2
   go_end0
   exact h3
  ·exact ⟨rfl,h3⟩
theorem full_len {t : ByteArray} (h : fullL t.data.toList = true) : t.size <= 1000:=by
 by_cases h48 : 48 < t.data.toList.length
 ·unfold fullL at h
  rw [cutL_long h48] at h
  cases h
 ·have : t.data.toList.length = t.size:=by simp
  omega
theorem gram.full {n : Nd} (h : gram n) (hk : n.k = 10 \/ n.k = 11) : fullL n.t.data.toList = true:=by
 have h1:=h.head.1
 unfold formedB bareK at h1
 rcases hk with hk | hk
 iterate 2
  ·rw [hk] at h1
   have h2:=(show _ /\ fullL n.t.data.toList = true by simpa using h1).2
   exact h2
theorem gram.parts {n : Nd} (h : gram n) (hk : n.k = 10) : ∃ us cs,n.kids = us ++ cs /\ (∀ m ∈ us,m.k = 11) /\ (∀ m ∈ cs,m.k = 4 \/ m.k = 10) /\ us.length <= 10:=h.head.2.2.2.2 hk
theorem gram.elemkid {n m : Nd} (h : gram n) (hk : n.k = 10) (hm : m ∈ n.kids) : m.k = 11 \/ m.k = 4 \/ m.k = 10:=by
 obtain ⟨us,cs,h1,h2,h3,_⟩:=h.parts hk
 rw [h1,List.mem_append] at hm
 rcases hm with hm | hm
 ·exact .inl (h2 m hm)
 ·exact .inr (h3 m hm)
theorem bind_len : ∀ (l : List Nd) (acc : List (List UInt8)),(bindL l acc).length <= acc.length + l.length
 | [],acc => by simp [bindL]
 | m :: r,acc => by
  simp only [bindL]
  split
  ·have:=bind_len r (if spaceOf m.t = [] \/ spaceOf m.t ∈ acc then acc else acc ++ [spaceOf m.t])
   split at this
   ·rw [if_pos ‹_›]; simp only [List.length_cons]; omega
   ·rw [if_neg ‹_›]; simp only [List.length_cons,List.length_append,List.length_nil] at this ⊢; omega
  ·simp only [List.length_cons]; omega
theorem nboxG {s : Nat} {g : Option Nat} {w : World} {k : Nat} {a b c d : Value} (h : Bes s g w k 24 #[a,b,c,d]) : w.cell? ⟨k,0,none⟩ = some a /\ w.cell? ⟨k,1,none⟩ = some b /\ w.cell? ⟨k,2,none⟩ = some c /\ w.cell? ⟨k,3,none⟩ = some d:=⟨h.1.cell 0,h.1.cell 1,h.1.cell 2,h.1.cell 3⟩
set_option maxHeartbeats 8000000 in
theorem elem_step (n : Nd) (hg : gram n) (hk : n.k = 10) (ih : ∀ m ∈ n.kids,m.k = 10 -> ∀ o,VisAt 85 #[.string ⟨o.toArray⟩] (.ane o) m) (o : List UInt8) : VisAt 85 #[.string ⟨o.toArray⟩] (.ane o) n:=by
 intro s path g A c w hi hA hlen
 have al1 : Below w.heap.size w (w.alloc (.cells #[.pointer (some ⟨s,0,none⟩)] 51)):=(Below.refl _ _).alloc (Nat.le_refl _) _
 have al:=al1.alloc (by simp) (.cells #[.int .i64 n.k,.string n.t,.string n.v,.slice A n.kids.length c] 24)
 have b1:=(Bes.new hi 51 #[.pointer (some ⟨s,0,none⟩)]).below (al_nd _ #[.int .i64 n.k,.string n.t,.string n.v,.slice A n.kids.length c])
 have b2:=Bes.new (hi.below al1) 24 #[.int .i64 n.k,.string n.t,.string n.v,.slice A n.kids.length c]
 rw [World.size_alloc] at b2
 obtain ⟨W0,hW0⟩ : ∃ W0,(w.alloc (.cells #[.pointer (some ⟨s,0,none⟩)] 51)).alloc (.cells #[.int .i64 n.k,.string n.t,.string n.v,.slice A n.kids.length c] 24) = W0:=⟨_,rfl⟩
 rw [hW0] at al b1 b2
 have hi1:=hi.below al
 have hA1:=hA.lowb hi al
 have hts : ∀ m ∈ n.kids,m.k = 11 -> m.t.size <= 1000:=fun m hm h => full_len ((hg.kid hm).full (.inr h))
 have hll : n.kids.length <= 100000:=by
  obtain ⟨k,t,v,l⟩:=n
  have:=sizeL_len l
  simp only [sizeN] at hlen
  simp only [Nd.kids]
  omega
 have hsp:=fun W => cspace_any n.t W (Nat.le_trans (full_len (hg.full (.inl hk))) (by decide))
 have hAt : ∀ W,Below W0.heap.size W0 W -> Calls Tryz.prog 117 #[.agg #[.int .i64 n.k,.string n.t,.string n.v,.slice A n.kids.length c]] W (fun e w' => e = .returned (.int .i64 ((bindL n.kids []).length : Int)) /\ Below W.heap.size W w'):=fun W h => by
  have h1 : NAt (fun b _ => b < s) W n A c:=hA1.low (fun q hq => h.block q (Nat.lt_trans hq hi1.lt))
  rw [Nd.eta n] at h1
  exact attrs_any n.k n.t n.v n.kids hts hll _ A c W h1
 have hD : (bindL n.kids []).length <= 100000:=Nat.le_trans (bind_len n.kids []) (by simpa using hll)
 have hbad : badS (.ane o) n = decide (10 < (bindL n.kids []).length + (if spaceOf n.t = o then 0 else 1)):=by simp only [badS,needs,hk]; rfl
 have hRy:=fun (W : World) (h : Below W0.heap.size W0 W) => refuse_yes s path g W (hi1.below h)
 have HRE : Hid (badS (.ane o) n = true -> ∀ W w1 v,Below W0.heap.size W0 W -> ORow w1 (s + 1) 3 v (pV path) -> Below W.heap.size W w1 -> VPost s path g w (srN badS nextS n (.ane o)) (.panicked (foundP v)) w1):=Lib.hid fun hb W w1 v h0 ho h => refuse_end hi hb (al.trans (h0.mono al.size)) ho h
 have HK : Hid (badS (.ane o) n = false -> ∀ W b3,Below W0.heap.size W0 W -> Bes s g W b3 9 #[.string ⟨(spaceOf n.t).toArray⟩] -> Calls Tryz.prog 84 #[.pointer (some ⟨s,0,none⟩),.agg #[.int .i64 n.k,.string n.t,.string n.v,.slice A n.kids.length c],.func (.func 118) #[] #[.pointer (some ⟨w.heap.size,0,none⟩),.pointer (some ⟨b3,0,none⟩)]] W (VPost s path g w (srN badS nextS n (.ane o)))):=Lib.hid fun hb W b3 h0 hb3 => by
  rw [srN_good _ _ hb]
  have hw0:=al.trans (h0.mono al.size)
  refine (kids_vis (.ane o) s path g n A c W (hi1.below h0) (hA.lowb hi hw0) hlen 118 #[] #[.pointer (some ⟨w.heap.size,0,none⟩),.pointer (some ⟨b3,0,none⟩)] (fun _ _ => rfl) (fun j h w1 g1 B cB k1 k2 k3 k4 => ?_)).mono fun e w1 h => VPost.pre hi (FrS.of_below hw0) h
  have hm:=kid_mem h
  have hnx : nextS (.ane o) n j = .ane (spaceOf n.t):=rfl
  have e1:=(b1.below h0).fr k2
  have e3:=hb3.fr k2
  have hgm:=hg.kid hm
  rw [hnx]
  rcases hg.elemkid hk hm with hm11 | hm4 | hm10
  ·have:=e1_attr (n.kids.getD j dNd) (spaceOf n.t) hm11 (hgm.leaf ⟨by omega,by omega,by omega,by omega⟩) s _ g1 w.heap.size b3 B cB w1 k1 e1
   simpa using this
  ·have:=e1_text (n.kids.getD j dNd) (spaceOf n.t) hm4 (hgm.leaf ⟨by omega,by omega,by omega,by omega⟩) s _ g1 w.heap.size b3 B cB w1 k1 e1
   simpa using this
  ·have:=e1_elem (n.kids.getD j dNd) (spaceOf n.t) hm10 (ih _ hm hm10 _) s _ g1 w.heap.size b3 B cB w1 k1 k3 k4 e1 e3
   simpa using this
 rw [hbad] at HRE HK
 generalize srN badS nextS n (.ane o) = R at *
 generalize hown : spaceOf n.t = own at *
 generalize (bindL n.kids []).length = D at *
 have B1:=Lib.hid b1
 have B2:=Lib.hid b2
 have HI1:=Lib.hid hi1
 obtain ⟨y1,y2,y3,y4⟩:=nbox' b2
 have y0:=sbox' b1
 unfold ndVal
 simp only [List.append_toArray,List.cons_append,List.nil_append]
 generalize n.k = k at *
 generalize n.t = t at *
 generalize n.v = v at *
 generalize n.kids.length = L at *
 clear hi hi1 hA hA1 b1 b2 al al1 hg hk ih hts hll hown hbad hlen
 subst hW0
 by_cases heq : own = o
 case pos =>
  subst heq
  by_cases hn : 10 < D
  case pos =>
   have HRE2:=Lib.hid (HRE.out (by rw [if_pos rfl]; exact decide_eq_true (by omega)))
   have zz : (10 : Int) < (D : Int):=by omega
   clear HRE HK hn
   go_enter Tryz.func85,Tryz.ntmps85
   go_wp2_with fail
   refine (hsp _).mono ?_
   rintro e w1 ⟨rfl,hb1⟩
   have hbx:=hb1.alloc hb1.size (.cells #[.string ⟨own.toArray⟩] 9)
   have b3:=Bes.new (HI1.out.below hb1) 9 #[.string ⟨own.toArray⟩]
   obtain ⟨x0,x1,x2,x3⟩:=nboxG (B2.out.below hbx)
   have s0:=sbox' (B1.out.below hbx)
   have s3:=sbox' b3
   have hAt2:=hAt _ hbx
   have HBX:=Lib.hid hbx
   have B3:=Lib.hid b3
   clear hbx b3 hb1 hAt hsp y0 y1 y2 y3 y4
   go_wp2_with fail
   refine hAt2.mono ?_
   rintro e w3 ⟨rfl,hb3⟩
   have hbz:=HBX.out.trans (hb3.mono HBX.out.size)
   have b3:=B3.out.below hb3
   obtain ⟨x0,x1,x2,x3⟩:=nboxG (B2.out.below hbz)
   have s0:=sbox' (B1.out.below hbz)
   have s3:=sbox' b3
   have hR:=hRy _ hbz
   have HBZ:=Lib.hid hbz
   clear hbz b3 hb3 hAt2 B3 HBX hRy
   go_wp2_with fail
   refine hR.mono ?_
   rintro e w4 ⟨u,rfl,ho,hb⟩
   exact ⟨rfl,HRE2.out _ w4 u HBZ.out ho hb⟩
  case neg =>
   have HK2:=Lib.hid (HK.out (by rw [if_pos rfl]; exact decide_eq_false (by omega)))
   have HDD : Hid (decide ((10 : Int) < (D : Int)) = false):=Lib.hid (decide_eq_false (by omega))
   clear HRE HK hn
   go_enter Tryz.func85,Tryz.ntmps85
   go_wp2_with fail
   refine (hsp _).mono ?_
   rintro e w1 ⟨rfl,hb1⟩
   have hbx:=hb1.alloc hb1.size (.cells #[.string ⟨own.toArray⟩] 9)
   have b3:=Bes.new (HI1.out.below hb1) 9 #[.string ⟨own.toArray⟩]
   obtain ⟨x0,x1,x2,x3⟩:=nboxG (B2.out.below hbx)
   have s0:=sbox' (B1.out.below hbx)
   have s3:=sbox' b3
   have hAt2:=hAt _ hbx
   have HBX:=Lib.hid hbx
   have B3:=Lib.hid b3
   clear hbx b3 hb1 hAt hsp y0 y1 y2 y3 y4
   go_wp2_with fail
   refine hAt2.mono ?_
   rintro e w3 ⟨rfl,hb3⟩
   have hbz:=HBX.out.trans (hb3.mono HBX.out.size)
   have b3:=B3.out.below hb3
   obtain ⟨x0,x1,x2,x3⟩:=nboxG (B2.out.below hbz)
   have s0:=sbox' (B1.out.below hbz)
   have s3:=sbox' b3
   have hK:=HK2.out w3 _ hbz b3
   clear hbz b3 hb3 hAt2 B3 HBX hRy HK2
   go_wp2_with fail
   rw [HDD.out]
   refine (refuse_no s _).mono ?_
   rintro e w4 ⟨rfl,rfl⟩
   go_wp2_with fail
   refine hK.mono ?_
   intro e w5 h
   rcases h.cases_ with ⟨_,rfl,h3⟩ | ⟨u,rfl,h3⟩
   ·clear h hK
    go_wp2
    go_end0
    exact h3
   ·exact ⟨rfl,h3⟩
 case neg =>
  by_cases hn : 10 < D + 1
  case pos =>
   have HRE2:=Lib.hid (HRE.out (by rw [if_neg heq]; exact decide_eq_true (by omega)))
   obtain ⟨z1,z2⟩:=str_neq heq
   have z4 : (own == o) = false:=by rw [beq_eq_false_iff_ne]; exact heq
   have z5:=heq
   have z3 : IntKind.wrap .i64 ((D : Int) + 1) = (D : Int) + 1:=IntWalk.i64_in _ (by omega)
   have zz : (10 : Int) < (D : Int) + 1:=by omega
   clear HRE HK hn heq
   go_enter Tryz.func85,Tryz.ntmps85
   go_wp2_with fail
   refine (hsp _).mono ?_
   rintro e w1 ⟨rfl,hb1⟩
   have hbx:=hb1.alloc hb1.size (.cells #[.string ⟨own.toArray⟩] 9)
   have b3:=Bes.new (HI1.out.below hb1) 9 #[.string ⟨own.toArray⟩]
   obtain ⟨x0,x1,x2,x3⟩:=nboxG (B2.out.below hbx)
   have s0:=sbox' (B1.out.below hbx)
   have s3:=sbox' b3
   have hAt2:=hAt _ hbx
   have HBX:=Lib.hid hbx
   have B3:=Lib.hid b3
   clear hbx b3 hb1 hAt hsp y0 y1 y2 y3 y4
   go_wp2_with fail
   refine hAt2.mono ?_
   rintro e w3 ⟨rfl,hb3⟩
   have hbz:=HBX.out.trans (hb3.mono HBX.out.size)
   have b3:=B3.out.below hb3
   obtain ⟨x0,x1,x2,x3⟩:=nboxG (B2.out.below hbz)
   have s0:=sbox' (B1.out.below hbz)
   have s3:=sbox' b3
   have hR:=hRy _ hbz
   have HBZ:=Lib.hid hbz
   clear hbz b3 hb3 hAt2 B3 HBX hRy
   go_wp2_with fail
   refine hR.mono ?_
   rintro e w4 ⟨u,rfl,ho,hb⟩
   exact ⟨rfl,HRE2.out _ w4 u HBZ.out ho hb⟩
  case neg =>
   have HK2:=Lib.hid (HK.out (by rw [if_neg heq]; exact decide_eq_false (by omega)))
   obtain ⟨z1,z2⟩:=str_neq heq
   have z4 : (own == o) = false:=by rw [beq_eq_false_iff_ne]; exact heq
   have z5:=heq
   have z3 : IntKind.wrap .i64 ((D : Int) + 1) = (D : Int) + 1:=IntWalk.i64_in _ (by omega)
   have HDD : Hid (decide ((10 : Int) < (D : Int) + 1) = false):=Lib.hid (decide_eq_false (by omega))
   clear HRE HK hn heq
   go_enter Tryz.func85,Tryz.ntmps85
   go_wp2_with fail
   refine (hsp _).mono ?_
   rintro e w1 ⟨rfl,hb1⟩
   have hbx:=hb1.alloc hb1.size (.cells #[.string ⟨own.toArray⟩] 9)
   have b3:=Bes.new (HI1.out.below hb1) 9 #[.string ⟨own.toArray⟩]
   obtain ⟨x0,x1,x2,x3⟩:=nboxG (B2.out.below hbx)
   have s0:=sbox' (B1.out.below hbx)
   have s3:=sbox' b3
   have hAt2:=hAt _ hbx
   have HBX:=Lib.hid hbx
   have B3:=Lib.hid b3
   clear hbx b3 hb1 hAt hsp y0 y1 y2 y3 y4
   go_wp2_with fail
   refine hAt2.mono ?_
   rintro e w3 ⟨rfl,hb3⟩
   have hbz:=HBX.out.trans (hb3.mono HBX.out.size)
   have b3:=B3.out.below hb3
   obtain ⟨x0,x1,x2,x3⟩:=nboxG (B2.out.below hbz)
   have s0:=sbox' (B1.out.below hbz)
   have s3:=sbox' b3
   have hK:=HK2.out w3 _ hbz b3
   clear hbz b3 hb3 hAt2 B3 HBX hRy HK2
   go_wp2_with fail
   rw [HDD.out]
   refine (refuse_no s _).mono ?_
   rintro e w4 ⟨rfl,rfl⟩
   go_wp2_with fail
   refine hK.mono ?_
   intro e w5 h
   rcases h.cases_ with ⟨_,rfl,h3⟩ | ⟨u,rfl,h3⟩
   ·clear h hK
    go_wp2
    go_end0
    exact h3
   ·exact ⟨rfl,h3⟩
theorem elem_vis (n : Nd) : gram n -> n.k = 10 -> ∀ o,VisAt 85 #[.string ⟨o.toArray⟩] (.ane o) n:=by
 induction n using Nd.ind with
 | h k t v l ih =>
  intro hg hk o
  exact elem_step _ hg hk (fun m hm h10 o => ih m hm (hg.kid hm) h10 o) o
set_option maxHeartbeats 4000000 in
theorem angle_vis (n : Nd) (hg : gram n) : VisAt 48 #[] .an0 n:=by
 intro s path g A c w hi hA hlen
 have al:=al_nd w #[.int .i64 n.k,.string n.t,.string n.v,.slice A n.kids.length c]
 have hi1:=hi.below al
 have HF : Hid (FrS s g w _ g):=Lib.hid (FrS.of_below al)
 have HI:=Lib.hid hi
 obtain ⟨x0,x1,x2,x3⟩:=nbox (Blk.new w 24 #[.int .i64 n.k,.string n.t,.string n.v,.slice A n.kids.length c])
 by_cases hk : n.k = 10
 case neg =>
  have hb : badS .an0 n = true:=by simp [badS,hk]
  have hR:=refuse_yes s path g _ hi1
  have HE : Hid (∀ w1 v,ORow w1 (s + 1) 3 v (pV path) -> Below _ _ w1 -> VPost s path g w (srN badS nextS n .an0) (.panicked (foundP v)) w1):=Lib.hid fun w1 v ho h => refuse_end hi hb al ho h
  have z1:=ibne hk
  have z2:=ibeq hk
  generalize srN badS nextS n .an0 = R at *
  unfold ndVal
  generalize n.k = k at *
  clear hk hb hi hi1 hA hg
  go_enter Tryz.func48,Tryz.ntmps48
  go_wp2_with fail
  refine hR.mono ?_
  rintro e w1 ⟨u,rfl,ho,hb⟩
  exact ⟨rfl,HE.out w1 u ho hb⟩
 case pos =>
  have hr : srN badS nextS n .an0 = srN badS nextS n (.ane []):=by
   have hb : badS .an0 n = badS (.ane []) n:=by simp [badS,hk]
   cases hbb : badS (.ane []) n with
   | true => rw [srN_bad _ _ hbb,srN_bad _ _ (hb.trans hbb)]
   | false =>
    rw [srN_good _ _ hbb,srN_good _ _ (hb.trans hbb)]
    rfl
  rw [hr]
  have hR:=refuse_no s
  have hK:=elem_vis n hg hk [] s path g A c _ hi1 (hA.lowb hi al) hlen
  unfold ndVal at hK ⊢
  simp only [List.append_toArray,List.cons_append,List.nil_append] at hK ⊢
  generalize srN badS nextS n (.ane []) = R at *
  rw [hk] at x0 hK HF ⊢
  clear hi hi1 hA al hr hk hg
  go_enter Tryz.func48,Tryz.ntmps48
  go_wp2_with fail
  refine (hR _).mono ?_
  rintro e w1 ⟨rfl,rfl⟩
  clear hR
  go_wp2_with fail
  refine hK.mono ?_
  intro e w1 h
  have h2:=VPost.pre HI.out HF.out h
  rcases h2.cases_ with ⟨_,rfl,h3⟩ | ⟨u,rfl,h3⟩
  ·clear h h2 hK
   go_wp2
   go_end0
   exact h3
  ·exact ⟨rfl,h3⟩
end Go.Proofs.YtbnppjmmlfncmaaGreatDoor
