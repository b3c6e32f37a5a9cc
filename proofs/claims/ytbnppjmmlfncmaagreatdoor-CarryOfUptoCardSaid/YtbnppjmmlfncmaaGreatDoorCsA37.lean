/-
  carry's reference: delim.
  carry's reference: tells.
  carry: the search of angle: what stands in an element. (printed by mkCyXd.py)
-/
import Derived.Test.YtbnppjmmlfncmaaGreatDoorCsA34
import Derived.Test.YtbnppjmmlfncmaaGreatDoorCsA32
import Derived.Test.YtbnppjmmlfncmaaGreatDoorCsA36
import Derived.Test.YtbnppjmmlfncmaaGreatDoorCsA35
import Derived.Test.YtbnppjmmlfncmaaGreatDoorCsA31
import Derived.Test.YtbnppjmmlfncmaaGreatDoorCsA33
set_option maxRecDepth 100000
set_option linter.unusedSimpArgs false
set_option linter.unusedVariables false
namespace Go.Proofs.YtbnppjmmlfncmaaGreatDoor
open Go.RowKit Go.Maps
set_option maxHeartbeats 8000000 in
theorem rdelim_any (way : List Nd) (n : Nd) (hfk : ∀ a,way = [a] -> 0 < a.kids.length) (hwl : way.length <= 100000) (hkl : n.kids.length <= 100000) (A : Option Addr) (c : Nat) (w : World) (hA : WayAt w way n A c) :
 Calls Tryz.prog 95 #[.slice A (way.length + 1) c] w fun e w' => e = .returned (.bool (delimT way n)) /\ Below w.heap.size w w':=by
 obtain ⟨hlc,hcm,b,o,rfl,hway,hlast⟩:=hA.nth
 obtain ⟨B,cB,q0,q1,q2,q3,hn1⟩:=hlast
 have al:=al_nd w #[.int .i64 n.k,.string n.t,.string n.v,.slice B n.kids.length cB]
 have bX:=Blk.new w 24 #[.int .i64 n.k,.string n.t,.string n.v,.slice B n.kids.length cB]
 obtain ⟨W0,hW0⟩ : ∃ W0,w.alloc (.cells #[.int .i64 n.k,.string n.t,.string n.v,.slice B n.kids.length cB] 24) = W0:=⟨_,rfl⟩
 rw [hW0] at al bX
 have HC : Hid (∀ W,Below W0.heap.size W0 W -> W.cell? ⟨w.heap.size,0,none⟩ = some (.int .i64 n.k) /\ W.cell? ⟨w.heap.size,1,none⟩ = some (.string n.t) /\ W.cell? ⟨w.heap.size,2,none⟩ = some (.string n.v) /\ W.cell? ⟨w.heap.size,3,none⟩ = some (.slice B n.kids.length cB)):=Lib.hid fun W h => nbox (bX.below h bX.lt)
 obtain ⟨x0,x1,x2,x3⟩:=HC.out W0 (Below.refl _ _)
 have HAL:=Lib.hid al
 have hlt1 : way.length < c:=by omega
 obtain ⟨R,hR⟩ : ∃ R,delimT way n = R:=⟨_,rfl⟩
 rw [hR]
 match way,hR with
 | [],hR =>
  have hR2 : decide (n.k = 5) = R:=hR
  simp only [List.length_nil,Nat.zero_mul,Nat.add_zero,Nat.zero_add] at q0 q1 q2 q3 hlt1 hlc ⊢
  by_cases h5 : n.k = 5
  case pos =>
   rw [decide_eq_true h5] at hR2
   subst hR2
   rw [h5] at q0 x0 hW0
   clear hR HC bX hway hA hn1 h5
   go_enter Tryz.func95,Tryz.ntmps95
   go_wp2
   go_ret
   exact ⟨rfl,HAL.out⟩
  case neg =>
   rw [decide_eq_false h5] at hR2
   subst hR2
   have z1:=ibeq h5
   clear hR HC bX hway hA hn1 h5
   generalize n.k = k at *
   go_enter Tryz.func95,Tryz.ntmps95
   go_wp2
   go_ret
   exact ⟨rfl,HAL.out⟩
 | [a],hR =>
  have hp:=hfk a rfl
  have hR2 : (decide (n.k = 7) && (decide (0 < n.kids.length) && (decide (n.kids.length <= 8) && sameTexts n.kids (a.kids.getD 0 dNd).kids))) = R:=hR
  simp only [List.length_nil,List.length_cons,Nat.zero_add,Nat.one_mul] at q0 q1 q2 q3 hlt1 hlc ⊢
  have ha:=hway 0 (by simp)
  simp only [Nat.zero_mul,Nat.add_zero,List.getD_cons_zero] at ha
  obtain ⟨Ba,ca,a0,a1,a2,a3,hna⟩:=kid_cells ha al
  obtain ⟨hac,ham,hak⟩:=(NAt.def_ _ _ _).1 hna
  obtain ⟨ba,oa,rfl,_,hkid⟩:=hak hp
  have hf:=hkid 0 hp
  rw [<- getDn hp] at hf
  simp only [Nat.zero_mul,Nat.add_zero] at hf
  obtain ⟨Bf,cf,f0,f1,f2,f3,hnf⟩:=hf
  have ham2 : ca <= 9223372036854775807:=by simpa [maxLen] using ham
  have hac2 : 0 < ca:=by omega
  have hpi : (0 : Int) < a.kids.length:=by omega
  have hc0 : 0 < c:=by omega
  clear hkid hak hna ha hfk hR
  generalize a.kids.getD 0 dNd = f at *
  generalize a.kids.length = AL at *
  have al2:=al_nd W0 #[.int .i64 f.k,.string f.t,.string f.v,.slice Bf f.kids.length cf]
  have bF:=Blk.new W0 24 #[.int .i64 f.k,.string f.t,.string f.v,.slice Bf f.kids.length cf]
  have HBB : Hid (Below w.heap.size w (W0.alloc (.cells #[.int .i64 f.k,.string f.t,.string f.v,.slice Bf f.kids.length cf] 24))):=Lib.hid (al.trans (al2.mono al.size))
  obtain ⟨y0,y1,y2,y3⟩:=nbox bF
  obtain ⟨w0,w1,w2,w3⟩:=HC.out _ al2
  obtain ⟨hnc,hnm,hnk⟩:=(NAt.def_ _ _ _).1 hn1
  obtain ⟨hfc,hfm,hfk2⟩:=(NAt.def_ _ _ _).1 hnf
  have hnm2 : cB <= 9223372036854775807:=by simpa [maxLen] using hnm
  have hfm2 : cf <= 9223372036854775807:=by simpa [maxLen] using hfm
  have HKN : Hid (∀ j (h : j < n.kids.length),∃ b2 o2,B = some ⟨b2,o2,none⟩ /\ ∀ W,Below W0.heap.size W0 W -> W.cell? ⟨b2,o2 + j * 4 + 1,none⟩ = some (.string (n.kids.getD j dNd).t)):=Lib.hid fun j h => by
   obtain ⟨b2,o2,h1,_,h3⟩:=hnk (by omega)
   refine ⟨b2,o2,h1,fun W hW => ?_⟩
   have h4:=h3 j h
   rw [<- getDn h] at h4
   obtain ⟨_,_,_,p1,_⟩:=kid_cells h4 (al.trans (hW.mono al.size))
   exact p1
  have HKF : Hid (∀ j (h : j < f.kids.length),∃ b2 o2,Bf = some ⟨b2,o2,none⟩ /\ ∀ W,Below W0.heap.size W0 W -> W.cell? ⟨b2,o2 + j * 4 + 1,none⟩ = some (.string (f.kids.getD j dNd).t)):=Lib.hid fun j h => by
   obtain ⟨b2,o2,h1,_,h3⟩:=hfk2 (by omega)
   refine ⟨b2,o2,h1,fun W hW => ?_⟩
   have h4:=h3 j h
   rw [<- getDn h] at h4
   obtain ⟨_,_,_,p1,_⟩:=kid_cells h4 hW
   exact p1
  have HNO : Hid (∀ j,j < n.kids.length -> j < f.kids.length -> (n.kids.getD j dNd).t ≠ (f.kids.getD j dNd).t -> sameTexts n.kids f.kids = false):=Lib.hid fun j h1 h2 h3 => sameTexts_no h1 h2 h3
  have HLN : Hid (n.kids.length ≠ f.kids.length -> sameTexts n.kids f.kids = false):=Lib.hid fun h => sameTexts_len h
  have HYES : Hid (n.kids.length = f.kids.length -> (∀ j,j < n.kids.length -> (n.kids.getD j dNd).t = (f.kids.getD j dNd).t) -> sameTexts n.kids f.kids = true):=Lib.hid fun h1 h2 => sameTexts_yes h1 h2
  have HBX:=Lib.hid bX
  have HBF:=Lib.hid bF
  clear hnk hfk2 hn1 hnf bX bF hway hA
  generalize sameTexts n.kids f.kids = ST at *
  obtain ⟨NT,hNT⟩ : ∃ NT : Nat -> ByteArray,(fun j => (n.kids.getD j dNd).t) = NT:=⟨_,rfl⟩
  obtain ⟨FT,hFT⟩ : ∃ FT : Nat -> ByteArray,(fun j => (f.kids.getD j dNd).t) = FT:=⟨_,rfl⟩
  have hNT2 : ∀ j,(n.kids.getD j dNd).t = NT j:=fun j => congrFun hNT j
  have hFT2 : ∀ j,(f.kids.getD j dNd).t = FT j:=fun j => congrFun hFT j
  simp only [hNT2,hFT2] at HKN HKF HNO HYES
  clear hNT hFT hNT2 hFT2
  generalize n.kids.length = KL at *
  generalize f.kids.length = FL at *
  generalize n.k = k at *
  by_cases h7 : k = 7
  case neg =>
   rw [decide_eq_false h7,Bool.false_and] at hR2
   subst hR2
   have z1:=ibeq h7
   have z2:=ibne h7
   clear HC h7 HKN HKF HNO HLN HYES HBX HBF
   go_enter Tryz.func95,Tryz.ntmps95
   go_wp2
   go_ret
   exact ⟨rfl,HBB.out⟩
  case pos =>
  subst h7
  rw [decide_eq_true rfl,Bool.true_and] at hR2
  by_cases hl0 : KL = 0
  case pos =>
   subst hl0
   rw [decide_eq_false (p:=0 < 0) (by omega),Bool.false_and] at hR2
   subst hR2
   clear HC HKN HKF HNO HLN HYES HBX HBF
   go_enter Tryz.func95,Tryz.ntmps95
   go_wp2
   go_ret
   exact ⟨rfl,HBB.out⟩
  case neg =>
  rw [decide_eq_true (p:=0 < KL) (by omega),Bool.true_and] at hR2
  have zl:=ibeq (show ¬ (KL : Int) = 0 by omega)
  have zl2 : ¬ (KL : Int) = 0:=by omega
  by_cases hl8 : KL <= 8
  case neg =>
   rw [decide_eq_false hl8,Bool.false_and] at hR2
   subst hR2
   have z8 : (8 : Int) < KL:=by omega
   clear HC HKN HKF HNO HLN HYES HBX HBF
   go_enter Tryz.func95,Tryz.ntmps95
   go_wp2
   go_ret
   exact ⟨rfl,HBB.out⟩
  case pos =>
  rw [decide_eq_true hl8,Bool.true_and] at hR2
  subst hR2
  have z8 : ¬ (8 : Int) < KL:=by omega
  by_cases hfl : KL = FL
  case neg =>
   have hST:=HLN.out hfl
   subst hST
   have zf : ¬ (KL : Int) = FL:=by omega
   have zf2:=ibeq zf
   have zf3:=ibne zf
   clear HC HKN HKF HNO HLN HYES HBX HBF
   go_enter Tryz.func95,Tryz.ntmps95
   go_wp2
   go_ret
   exact ⟨rfl,HBB.out⟩
  case pos =>
  subst hfl
  obtain ⟨W1,hW1⟩ : ∃ W1,W0.alloc (.cells #[.int .i64 f.k,.string f.t,.string f.v,.slice Bf KL cf] 24) = W1:=⟨_,rfl⟩
  rw [hW1] at HBB HBF y0 y1 y2 y3 w0 w1 w2 w3 al2
  have HA2:=Lib.hid al2
  clear HLN
  go_enter Tryz.func95,Tryz.ntmps95
  go_wp2
  clear hW0 hW1
  go_loopw [5] (fun i wr => ∃ j : Nat,j <= KL /\ i = .int .i64 (j : Int) /\ Hid (∀ q,q < j -> NT q = FT q) /\ Hid (Below W1.heap.size W1 wr)) (fun i _ => KL - (intOf i).toNat)
  case atStart => exact ⟨0,Nat.zero_le _,rfl,Lib.hid (fun q hq => absurd hq (Nat.not_lt_zero _)),Lib.hid (Below.refl _ _)⟩
  case round =>
   obtain ⟨j,hj,rfl,HP,HW⟩:=hrel
   have hb0 : Below W0.heap.size W0 wr:=HA2.out.trans (HW.out.mono HA2.out.size)
   obtain ⟨x0,x1,x2,x3⟩:=HC.out wr hb0
   have hbf:=HBF.out.below HW.out HBF.out.lt
   have y3 : wr.cell? ⟨W0.heap.size,3,none⟩ = some (.slice Bf KL cf):=hbf.cell 3
   by_cases hlt : j < KL
   case pos =>
    obtain ⟨b2,o2,rfl,hp1⟩:=HKN.out j hlt
    obtain ⟨b3,o3,rfl,hp2⟩:=HKF.out j hlt
    have p1:=hp1 wr hb0
    have p2:=hp2 wr hb0
    have hjc : j < cB:=by omega
    have hjf : j < cf:=by omega
    have HNJ:=Lib.hid (HNO.out j hlt hlt)
    have HNX : Hid (NT j = FT j -> ∀ q,q < j + 1 -> NT q = FT q):=Lib.hid fun h q hq => by
     by_cases hqj : q = j
     ·rw [hqj]; exact h
     ·exact HP.out q (by omega)
    clear hp1 hp2 HKN HKF HNO HYES HP hbf hb0 HBX HBF HC
    generalize NT j = t1 at *
    generalize FT j = t2 at *
    by_cases ht : t1 = t2
    case pos =>
     have HN2:=Lib.hid (HNX.out ht)
     subst ht
     clear HNX HNJ
     go_wp2
     go_region
     go_wp2
     go_roundw
     case rel => exact ⟨j + 1,hlt,by go_num,HN2,Lib.hid (HW.out.trans (below_drew (Below.refl _ _) |>.mono HW.out.size))⟩
     case measure => first | (simp [intOf]; done) | (simp [intOf]; omega)
    case neg =>
     have HN2:=Lib.hid (HNJ.out ht)
     obtain ⟨z1,z2⟩:=str_diff ht
     clear HNX HNJ ht
     go_wp2
     go_region
     go_wp2
     go_ret
     exact ⟨by rw [HN2.out] <;> rfl,HBB.out.trans ((HW.out.trans (below_drew (Below.refl _ _) |>.mono HW.out.size)).mono HBB.out.size)⟩
   case neg =>
    obtain rfl : j = KL:=by omega
    have HY:=Lib.hid (HYES.out trivial HP.out)
    clear HKN HKF HNO HYES HP hbf hb0 HBX HBF HC
    go_wp2
    go_ret
    exact ⟨by rw [HY.out] <;> rfl,HBB.out.trans (HW.out.mono HBB.out.size)⟩
 | [a1,a2],hR =>
  have hR2 : true = R:=hR
  subst hR2
  simp only [List.length_nil,List.length_cons,Nat.zero_add] at q0 q1 q2 q3 hlt1 hlc ⊢
  clear hR HC bX hway hA hn1
  go_enter Tryz.func95,Tryz.ntmps95
  go_wp2
  go_ret
  exact ⟨rfl,HAL.out⟩
 | [a1,a2,a3],hR =>
  have hR2 : decide (n.k = 4) = R:=hR
  simp only [List.length_nil,List.length_cons,Nat.zero_add] at q0 q1 q2 q3 hlt1 hlc ⊢
  by_cases h5 : n.k = 4
  case pos =>
   rw [decide_eq_true h5] at hR2
   subst hR2
   rw [h5] at q0 x0 hW0
   clear hR HC bX hway hA hn1 h5
   go_enter Tryz.func95,Tryz.ntmps95
   go_wp2
   go_ret
   exact ⟨rfl,HAL.out⟩
  case neg =>
   rw [decide_eq_false h5] at hR2
   subst hR2
   have z1:=ibeq h5
   clear hR HC bX hway hA hn1 h5
   generalize n.k = k at *
   go_enter Tryz.func95,Tryz.ntmps95
   go_wp2
   go_ret
   exact ⟨rfl,HAL.out⟩
 | a1 :: a2 :: a3 :: a4 :: r,hR =>
  have hR2 : true = R:=hR
  subst hR2
  simp only [List.length_cons] at q0 q1 q2 q3 hlt1 hlc hwl ⊢
  generalize r.length = L at *
  have l1 : ¬ (L : Int) + 1 + 1 + 1 + 1 + 1 = 1:=by omega
  have l2 : ¬ (L : Int) + 1 + 1 + 1 + 1 + 1 = 2:=by omega
  have l4 : ¬ (L : Int) + 1 + 1 + 1 + 1 + 1 = 4:=by omega
  have m1:=ibeq l1
  have m2:=ibeq l2
  have m4:=ibeq l4
  clear hR HC bX hway hA hn1
  go_enter Tryz.func95,Tryz.ntmps95
  go_wp2
  go_ret
  exact ⟨rfl,HAL.out⟩
structure WayOk (way : List Nd) (n : Nd) : Prop where
 small : smallT n
 size : sizeN n <= 90000
 key : n.k = 8 -> 0 < n.kids.length
 downs : Downs way
 len : way.length <= 1000
 lastT : (lastN way).t.size <= 1048576
 lastK : (lastN way).kids.length <= 100000
 lastD : (tabT way).isSome = true -> ∀ m ∈ (lastN way).kids,0 < m.kids.length
 first : ∀ a,way = [a] -> 0 < a.kids.length
 path : ∀ path,tabT way = some path -> path.length <= 10000000000
theorem small_kids {n : Nd} (h : smallT n) : n.t.size <= 1048576 /\ n.v.size <= 1048576 /\ ∀ m ∈ n.kids,smallT m:=by
 obtain ⟨k,t,v,l⟩:=n
 exact ⟨h.1,h.2.1,fun m hm => smallL_mem.1 h.2.2 m hm⟩
theorem size_kids (n : Nd) : n.kids.length <= sizeN n:=by
 obtain ⟨k,t,v,l⟩:=n
 have:=sizeL_len l
 simp only [sizeN,Nd.kids]
 omega
theorem rtells2 (way : List Nd) (n : Nd) (h : WayOk way n) (A : Option Addr) (c : Nat) (w : World) (hA : WayAt w way n A c) :
 Calls Tryz.prog 52 #[.int .i64 2,.slice A (way.length + 1) c] w fun e w' => e = .returned (.bool (tellsT 2 way n)) /\ Below w.heap.size w w':=by
 have hC:=rangle_any way n (small_kids h.small).1 (small_kids h.small).2.1 (fun m hm => (small_kids ((small_kids h.small).2.2 m hm)).1) h.lastT (Nat.le_trans h.len (by decide)) (Nat.le_trans (size_kids n) (Nat.le_trans h.size (by decide))) A c w hA
 have hT : tellsT 2 way n = angleT way n:=by unfold tellsT; simp
 rw [hT]
 generalize angleT way n = R at *
 clear hA h hT
 go_enter Tryz.func52,Tryz.ntmps52
 go_wp2_with fail
 refine hC.mono ?_
 rintro e w1 ⟨rfl,hb⟩
 go_wp2
 go_ret
 exact ⟨rfl,hb⟩
theorem rtells5 (way : List Nd) (n : Nd) (h : WayOk way n) (A : Option Addr) (c : Nat) (w : World) (hA : WayAt w way n A c) :
 Calls Tryz.prog 52 #[.int .i64 5,.slice A (way.length + 1) c] w fun e w' => e = .returned (.bool (tellsT 5 way n)) /\ Below w.heap.size w w':=by
 have hC:=rdelim_any way n h.first (Nat.le_trans h.len (by decide)) (Nat.le_trans (size_kids n) (Nat.le_trans h.size (by decide))) A c w hA
 have hT : tellsT 5 way n = delimT way n:=by unfold tellsT; simp
 rw [hT]
 generalize delimT way n = R at *
 clear hA h hT
 go_enter Tryz.func52,Tryz.ntmps52
 go_wp2_with fail
 refine hC.mono ?_
 rintro e w1 ⟨rfl,hb⟩
 go_wp2
 go_ret
 exact ⟨rfl,hb⟩
theorem rtells3 (way : List Nd) (n : Nd) (h : WayOk way n) (A : Option Addr) (c : Nat) (w : World) (hA : WayAt w way n A c) :
 Calls Tryz.prog 52 #[.int .i64 3,.slice A (way.length + 1) c] w fun e w' => e = .returned (.bool (tellsT 3 way n)) /\ Below w.heap.size w w':=by
 have hC:=routline_any way n h.small (Nat.le_trans (Nat.mul_le_mul_right _ h.size) (by decide)) h.lastT (Nat.le_trans h.len (by decide)) (Nat.le_trans (size_kids n) (Nat.le_trans h.size (by decide))) A c w hA
 have hT : tellsT 3 way n = outlT way n:=by unfold tellsT; simp
 rw [hT]
 generalize outlT way n = R at *
 clear hA h hT
 go_enter Tryz.func52,Tryz.ntmps52
 go_wp2_with fail
 refine hC.mono ?_
 rintro e w1 ⟨rfl,hb⟩
 go_wp2
 go_ret
 exact ⟨rfl,hb⟩
theorem rtells4 (way : List Nd) (n : Nd) (h : WayOk way n) (A : Option Addr) (c : Nat) (w : World) (hA : WayAt w way n A c) :
 Calls Tryz.prog 52 #[.int .i64 4,.slice A (way.length + 1) c] w fun e w' => e = .returned (.bool (tellsT 4 way n)) /\ Below w.heap.size w w':=by
 have hC:=rsections_any way n h.downs h.small (Nat.le_trans (Nat.mul_le_mul_right _ h.size) (by decide)) h.key h.lastD h.lastK h.len h.path A c w hA
 have hT : tellsT 4 way n = sectT way n:=by unfold tellsT; simp
 rw [hT]
 generalize sectT way n = R at *
 clear hA h hT
 go_enter Tryz.func52,Tryz.ntmps52
 go_wp2_with fail
 refine hC.mono ?_
 rintro e w1 ⟨rfl,hb⟩
 go_wp2
 go_ret
 exact ⟨rfl,hb⟩
theorem rtells1 (way : List Nd) (n : Nd) (A : Option Addr) (c : Nat) (w : World) (hA : WayAt w way n A c) :
 Calls Tryz.prog 52 #[.int .i64 1,.slice A (way.length + 1) c] w fun e w' => e = .returned (.bool (tellsT 1 way n)) /\ Below w.heap.size w w':=by
 have hT : tellsT 1 way n = !decide (n.k = 10):=by unfold tellsT; simp
 rw [hT]
 obtain ⟨hlc,hcm,b,o,rfl,_,hlast⟩:=hA.nth
 obtain ⟨B,cB,q0,q1,q2,q3,_⟩:=hlast
 have hlt1 : way.length < c:=by omega
 clear hA hT
 by_cases hk : n.k = 10
 case pos =>
  rw [decide_eq_true hk]
  rw [hk] at q0
  clear hk
  go_enter Tryz.func52,Tryz.ntmps52
  go_wp2
  go_ret
  exact ⟨rfl,Below.refl _ _⟩
 case neg =>
  rw [decide_eq_false hk]
  have z1:=ibeq hk
  have z2:=ibne hk
  generalize n.k = k at *
  clear hk
  go_enter Tryz.func52,Tryz.ntmps52
  go_wp2
  go_ret
  exact ⟨rfl,Below.refl _ _⟩
theorem rtells6 (way : List Nd) (n : Nd) (A : Option Addr) (c : Nat) (w : World) :
 Calls Tryz.prog 52 #[.int .i64 6,.slice A (way.length + 1) c] w fun e w' => e = .returned (.bool (tellsT 6 way n)) /\ Below w.heap.size w w':=by
 have hT : tellsT 6 way n = true:=by unfold tellsT; simp
 rw [hT]
 go_enter Tryz.func52,Tryz.ntmps52
 go_wp2
 go_ret
 exact ⟨rfl,Below.refl _ _⟩
theorem rtells_any (x : Int) (hx : 1 <= x /\ x <= 6) (way : List Nd) (n : Nd) (h : WayOk way n) (A : Option Addr) (c : Nat) (w : World) (hA : WayAt w way n A c) :
 Calls Tryz.prog 52 #[.int .i64 x,.slice A (way.length + 1) c] w fun e w' => e = .returned (.bool (tellsT x way n)) /\ Below w.heap.size w w':=by
 rcases (show x = 1 \/ x = 2 \/ x = 3 \/ x = 4 \/ x = 5 \/ x = 6 by omega) with rfl | rfl | rfl | rfl | rfl | rfl
 ·exact rtells1 way n A c w hA
 ·exact rtells2 way n h A c w hA
 ·exact rtells3 way n h A c w hA
 ·exact rtells4 way n h A c w hA
 ·exact rtells5 way n h A c w hA
 ·exact rtells6 way n A c w
set_option maxHeartbeats 4000000 in
theorem e1_text (n : Nd) (o : List UInt8) (hk : n.k = 4) (hl : n.kids = []) (s : Nat) (path : List Nat) (g : Option Nat) (b1 b2 : Nat) (A : Option Addr) (c : Nat) (w : World) (hi : SI s w path g) (h1 : Bes s g w b1 51 #[.pointer (some ⟨s,0,none⟩)]) :
 Calls Tryz.prog 118 #[ndVal n A c,.pointer (some ⟨b1,0,none⟩),.pointer (some ⟨b2,0,none⟩)] w (VPost s path g w (srN badS nextS n (.ane o))):=by
 have al:=al_nd w #[.int .i64 n.k,.string n.t,.string n.v,.slice A n.kids.length c]
 have hi1:=hi.below al
 have bX:=Bes.new hi 24 #[.int .i64 n.k,.string n.t,.string n.v,.slice A n.kids.length c]
 obtain ⟨W0,hW0⟩ : ∃ W0,w.alloc (.cells #[.int .i64 n.k,.string n.t,.string n.v,.slice A n.kids.length c] 24) = W0:=⟨_,rfl⟩
 rw [hW0] at al hi1 bX
 have y0:=(nbox' bX).1
 have cells : ∀ W,Below W0.heap.size W0 W -> W.cell? ⟨b1,0,none⟩ = some (.pointer (some ⟨s,0,none⟩)) /\ W.cell? ⟨w.heap.size,1,none⟩ = some (.string n.t) /\ W.cell? ⟨w.heap.size,2,none⟩ = some (.string n.v):=fun W h => by
  obtain ⟨x0,x1,x2,x3⟩:=nbox' (bX.below h)
  exact ⟨sbox' ((h1.below al).below h),x1,x2⟩
 have hRy:=fun (W : World) (h : Below W0.heap.size W0 W) => refuse_yes s path g W (hi1.below h)
 have hbad : badS (.ane o) n = (!rawL n.t.data.toList):=by simp only [badS,hk]; rfl
 have HRE : Hid (badS (.ane o) n = true -> ∀ W w1 v,Below W0.heap.size W0 W -> ORow w1 (s + 1) 3 v (pV path) -> Below W.heap.size W w1 -> VPost s path g w (srN badS nextS n (.ane o)) (.panicked (foundP v)) w1):=Lib.hid fun hb W w1 v h0 ho h => refuse_end hi hb (al.trans (h0.mono al.size)) ho h
 have HOK : Hid (badS (.ane o) n = false -> ∀ W,Below W0.heap.size W0 W -> VPost s path g w (srN badS nextS n (.ane o)) (.returned (.tuple #[])) W):=Lib.hid fun hb W h0 => by
  have hr : srN badS nextS n (.ane o) = none:=by
   rw [srN_good _ _ hb]
   unfold restS
   rw [hl]
   simp [srL_nil]
  rw [hr]
  exact .inl ⟨rfl,rfl,g,hi1.below h0,FrS.of_below (al.trans (h0.mono al.size))⟩
 rw [hbad] at HRE HOK
 generalize srN badS nextS n (.ane o) = R at *
 clear hi hi1 bX h1 hl hbad
 unfold ndVal
 generalize n.t = T at *
 generalize n.v = V at *
 rw [hk] at y0 hW0 ⊢
 clear hk
 go_enter Tryz.func118,Tryz.ntmps118
 go_wp2
 clear hW0
 refine region_gp [] (S:=(fun W => W.cell? ⟨b1,0,none⟩ = some (.pointer (some ⟨s,0,none⟩)) /\ W.cell? ⟨w.heap.size,1,none⟩ = some (.string T) /\ W.cell? ⟨w.heap.size,2,none⟩ = some (.string V))) (fun c w' => VPost s path g w R (.panicked c) w') (by kernel_rfl) (cells _ (below_drew (Below.refl _ _))) (fun c a' w' hd hR => ⟨hd,hR⟩) (fun hH => ?_)
 refine g_take (i:=0) (v:=.pointer (some ⟨s,0,none⟩)) (by rfl) (by kernel_rfl) (by kernel_rfl) (by kernel_rfl) (by kernel_rfl) (fun _ _ _ h => pan_put h) (Or.inl ⟨by kernel_rfl,fun W hS => (by obtain ⟨s0,s1,s2⟩:=hS; go_simp)⟩) hH ?_
 simp only [Act.put,List.setIfInBounds_toArray,List.set_cons_zero,List.set_cons_succ]
 refine g_take (i:=1) (v:=.pointer (some ⟨w.heap.size,1,none⟩)) (by rfl) (by kernel_rfl) (by kernel_rfl) (by kernel_rfl) (by kernel_rfl) (fun _ _ _ h => pan_put h) (Or.inl ⟨by kernel_rfl,fun W hS => (by obtain ⟨s0,s1,s2⟩:=hS; go_simp)⟩) hH ?_
 simp only [Act.put,List.setIfInBounds_toArray,List.set_cons_zero,List.set_cons_succ]
 refine g_take (i:=2) (v:=.string T) (by rfl) (by kernel_rfl) (by kernel_rfl) (by kernel_rfl) (by kernel_rfl) (fun _ _ _ h => pan_put h) (Or.inl ⟨by kernel_rfl,fun W hS => (by obtain ⟨s0,s1,s2⟩:=hS; go_simp)⟩) hH ?_
 simp only [Act.put,List.setIfInBounds_toArray,List.set_cons_zero,List.set_cons_succ]
 refine g_one (i:=3) (by kernel_rfl) (by rfl) (fun K hK => ?_)
 go_simp
 refine (israw_any T W0.drew).mono ?_
 rintro e w1 ⟨rfl,hb1⟩
 have hb2 : Below W0.heap.size W0 w1:=(below_drew (Below.refl _ _)).trans hb1
 refine hK.out _ _ (fun _ => cells w1 hb2) (fun _ => ?_)
 clear hK K hH hb1
 cases hraw : rawL T.data.toList with
 | false =>
  have HRE2:=Lib.hid (HRE.out (by rw [hraw]; rfl))
  clear HRE HOK hraw
  refine g_one (i:=4) (by kernel_rfl) (by rfl) (fun K hK => ?_)
  go_simp
  refine hK.out _ _ (fun _ => cells w1 hb2) (fun _ => ?_)
  clear hK K
  refine g_one (i:=5) (by kernel_rfl) (by rfl) (fun K hK => ?_)
  go_simp
  refine (hRy w1 hb2).mono ?_
  rintro e w2 ⟨u,rfl,ho,hb⟩
  exact .inr ⟨_,rfl,HRE2.out w1 w2 u hb2 ho hb,rfl⟩
 | true =>
  have HOK2:=Lib.hid (HOK.out (by rw [hraw]; rfl))
  clear HRE HOK hraw hRy
  refine g_one (i:=4) (by kernel_rfl) (by rfl) (fun K hK => ?_)
  go_simp
  refine hK.out _ _ (fun _ => cells w1 hb2) (fun _ => ?_)
  clear hK K
  refine g_one (i:=5) (by kernel_rfl) (by rfl) (fun K hK => ?_)
  go_simp
  refine (refuse_no s w1).mono ?_
  rintro e w2 ⟨rfl,rfl⟩
  refine hK.out _ _ (fun _ => cells w2 hb2) (fun _ => ?_)
  clear hK K
  refine g_done (by kernel_rfl) (.inl ⟨by first | rfl | trivial,?_⟩) _
  have HE:=Lib.hid (HOK2.out w2 hb2)
  clear cells HOK2 hb2
  go_wp2
  go_end0
  exact HE.out
set_option maxHeartbeats 4000000 in
theorem e1_attr (n : Nd) (o : List UInt8) (hk : n.k = 11) (hl : n.kids = []) (s : Nat) (path : List Nat) (g : Option Nat) (b1 b2 : Nat) (A : Option Addr) (c : Nat) (w : World) (hi : SI s w path g) (h1 : Bes s g w b1 51 #[.pointer (some ⟨s,0,none⟩)]) :
 Calls Tryz.prog 118 #[ndVal n A c,.pointer (some ⟨b1,0,none⟩),.pointer (some ⟨b2,0,none⟩)] w (VPost s path g w (srN badS nextS n (.ane o))):=by
 have al:=al_nd w #[.int .i64 n.k,.string n.t,.string n.v,.slice A n.kids.length c]
 have hi1:=hi.below al
 have bX:=Bes.new hi 24 #[.int .i64 n.k,.string n.t,.string n.v,.slice A n.kids.length c]
 obtain ⟨W0,hW0⟩ : ∃ W0,w.alloc (.cells #[.int .i64 n.k,.string n.t,.string n.v,.slice A n.kids.length c] 24) = W0:=⟨_,rfl⟩
 rw [hW0] at al hi1 bX
 have y0:=(nbox' bX).1
 have cells : ∀ W,Below W0.heap.size W0 W -> W.cell? ⟨b1,0,none⟩ = some (.pointer (some ⟨s,0,none⟩)) /\ W.cell? ⟨w.heap.size,1,none⟩ = some (.string n.t) /\ W.cell? ⟨w.heap.size,2,none⟩ = some (.string n.v):=fun W h => by
  obtain ⟨x0,x1,x2,x3⟩:=nbox' (bX.below h)
  exact ⟨sbox' ((h1.below al).below h),x1,x2⟩
 have hRy:=fun (W : World) (h : Below W0.heap.size W0 W) => refuse_yes s path g W (hi1.below h)
 have hbad : badS (.ane o) n = (decide (n.t.data.toList = xmlnsL) || !rawL n.v.data.toList):=by simp only [badS,hk]; rfl
 have HRE : Hid (badS (.ane o) n = true -> ∀ W w1 v,Below W0.heap.size W0 W -> ORow w1 (s + 1) 3 v (pV path) -> Below W.heap.size W w1 -> VPost s path g w (srN badS nextS n (.ane o)) (.panicked (foundP v)) w1):=Lib.hid fun hb W w1 v h0 ho h => refuse_end hi hb (al.trans (h0.mono al.size)) ho h
 have HOK : Hid (badS (.ane o) n = false -> ∀ W,Below W0.heap.size W0 W -> VPost s path g w (srN badS nextS n (.ane o)) (.returned (.tuple #[])) W):=Lib.hid fun hb W h0 => by
  have hr : srN badS nextS n (.ane o) = none:=by
   rw [srN_good _ _ hb]
   unfold restS
   rw [hl]
   simp [srL_nil]
  rw [hr]
  exact .inl ⟨rfl,rfl,g,hi1.below h0,FrS.of_below (al.trans (h0.mono al.size))⟩
 rw [hbad] at HRE HOK
 generalize srN badS nextS n (.ane o) = R at *
 clear hi hi1 bX h1 hl hbad
 unfold ndVal
 generalize n.t = T at *
 generalize n.v = V at *
 rw [hk] at y0 hW0 ⊢
 clear hk
 by_cases hT : T.data.toList = xmlnsL
 case pos =>
  rw [decide_eq_true hT,Bool.true_or] at HRE
  have HRE2:=Lib.hid (HRE.out rfl)
  obtain rfl : T = ⟨#[120,109,108,110,115]⟩:=by
   obtain ⟨d⟩:=T
   have : d = #[120,109,108,110,115]:=Array.toList_inj.1 hT
   rw [this]
  clear hT HRE HOK
  go_enter Tryz.func118,Tryz.ntmps118
  go_wp2
  clear hW0
  refine region_gp [] (S:=(fun W => W.cell? ⟨b1,0,none⟩ = some (.pointer (some ⟨s,0,none⟩)) /\ W.cell? ⟨w.heap.size,1,none⟩ = some (.string ⟨#[120,109,108,110,115]⟩) /\ W.cell? ⟨w.heap.size,2,none⟩ = some (.string V))) (fun c w' => VPost s path g w R (.panicked c) w') (by kernel_rfl) (cells _ (below_drew (Below.refl _ _))) (fun c a' w' hd hR => ⟨hd,hR⟩) (fun hH => ?_)
  refine g_take (i:=0) (v:=.pointer (some ⟨s,0,none⟩)) (by rfl) (by kernel_rfl) (by kernel_rfl) (by kernel_rfl) (by kernel_rfl) (fun _ _ _ h => pan_put h) (Or.inl ⟨by kernel_rfl,fun W hS => (by obtain ⟨s0,s1,s2⟩:=hS; go_simp)⟩) hH ?_
  simp only [Act.put,List.setIfInBounds_toArray,List.set_cons_zero,List.set_cons_succ]
  refine g_take (i:=1) (v:=.pointer (some ⟨w.heap.size,1,none⟩)) (by rfl) (by kernel_rfl) (by kernel_rfl) (by kernel_rfl) (by kernel_rfl) (fun _ _ _ h => pan_put h) (Or.inl ⟨by kernel_rfl,fun W hS => (by obtain ⟨s0,s1,s2⟩:=hS; go_simp)⟩) hH ?_
  simp only [Act.put,List.setIfInBounds_toArray,List.set_cons_zero,List.set_cons_succ]
  refine g_take (i:=2) (v:=.string ⟨#[120,109,108,110,115]⟩) (by rfl) (by kernel_rfl) (by kernel_rfl) (by kernel_rfl) (by kernel_rfl) (fun _ _ _ h => pan_put h) (Or.inl ⟨by kernel_rfl,fun W hS => (by obtain ⟨s0,s1,s2⟩:=hS; go_simp)⟩) hH ?_
  simp only [Act.put,List.setIfInBounds_toArray,List.set_cons_zero,List.set_cons_succ]
  refine g_take (i:=3) (v:=.bool true) (by rfl) (by kernel_rfl) (by kernel_rfl) (by kernel_rfl) (by kernel_rfl) (fun _ _ _ h => pan_put h) (Or.inl ⟨by kernel_rfl,fun W hS => (by obtain ⟨s0,s1,s2⟩:=hS; go_simp)⟩) hH ?_
  simp only [Act.put,List.setIfInBounds_toArray,List.set_cons_zero,List.set_cons_succ]
  refine g_take (i:=4) (v:=.bool true) (by rfl) (by kernel_rfl) (by kernel_rfl) (by kernel_rfl) (by kernel_rfl) (fun _ _ _ h => pan_put h) (Or.inl ⟨by kernel_rfl,fun W hS => (by obtain ⟨s0,s1,s2⟩:=hS; go_simp)⟩) hH ?_
  simp only [Act.put,List.setIfInBounds_toArray,List.set_cons_zero,List.set_cons_succ]
  refine g_take (i:=5) (v:=undef) (by rfl) (by kernel_rfl) (by kernel_rfl) (by kernel_rfl) (by kernel_rfl) (fun _ _ _ h => pan_put h) (Or.inr ⟨by kernel_rfl,rfl⟩) hH ?_
  simp only [Act.put,List.setIfInBounds_toArray,List.set_cons_zero,List.set_cons_succ]
  refine g_take (i:=6) (v:=undef) (by rfl) (by kernel_rfl) (by kernel_rfl) (by kernel_rfl) (by kernel_rfl) (fun _ _ _ h => pan_put h) (Or.inr ⟨by kernel_rfl,rfl⟩) hH ?_
  simp only [Act.put,List.setIfInBounds_toArray,List.set_cons_zero,List.set_cons_succ]
  refine g_take (i:=7) (v:=undef) (by rfl) (by kernel_rfl) (by kernel_rfl) (by kernel_rfl) (by kernel_rfl) (fun _ _ _ h => pan_put h) (Or.inr ⟨by kernel_rfl,rfl⟩) hH ?_
  simp only [Act.put,List.setIfInBounds_toArray,List.set_cons_zero,List.set_cons_succ]
  refine g_take (i:=8) (v:=undef) (by rfl) (by kernel_rfl) (by kernel_rfl) (by kernel_rfl) (by kernel_rfl) (fun _ _ _ h => pan_put h) (Or.inr ⟨by kernel_rfl,rfl⟩) hH ?_
  simp only [Act.put,List.setIfInBounds_toArray,List.set_cons_zero,List.set_cons_succ]
  refine g_take (i:=9) (v:=.bool true) (by rfl) (by kernel_rfl) (by kernel_rfl) (by kernel_rfl) (by kernel_rfl) (fun _ _ _ h => pan_put h) (Or.inl ⟨by kernel_rfl,fun W hS => (by obtain ⟨s0,s1,s2⟩:=hS; go_simp)⟩) hH ?_
  simp only [Act.put,List.setIfInBounds_toArray,List.set_cons_zero,List.set_cons_succ]
  refine g_one (i:=10) (by kernel_rfl) (by rfl) (fun K hK => ?_)
  go_simp
  refine (hRy W0.drew (below_drew (Below.refl _ _))).mono ?_
  rintro e w2 ⟨u,rfl,ho,hb⟩
  exact .inr ⟨_,rfl,HRE2.out W0.drew w2 u (below_drew (Below.refl _ _)) ho hb,rfl⟩
 case neg =>
  rw [decide_eq_false hT,Bool.false_or] at HRE HOK
  have z0:=hT
  rw [<- Lib.toList_data] at z0
  have z1 : (T.toList == [120,109,108,110,115]) = false:=by rw [beq_eq_false_iff_ne]; exact z0
  have z2 : ¬ T.toList = [120,109,108,110,115]:=z0
  clear hT z0
  go_enter Tryz.func118,Tryz.ntmps118
  go_wp2
  clear hW0
  refine region_gp [] (S:=(fun W => W.cell? ⟨b1,0,none⟩ = some (.pointer (some ⟨s,0,none⟩)) /\ W.cell? ⟨w.heap.size,1,none⟩ = some (.string T) /\ W.cell? ⟨w.heap.size,2,none⟩ = some (.string V))) (fun c w' => VPost s path g w R (.panicked c) w') (by kernel_rfl) (cells _ (below_drew (Below.refl _ _))) (fun c a' w' hd hR => ⟨hd,hR⟩) (fun hH => ?_)
  refine g_take (i:=0) (v:=.pointer (some ⟨s,0,none⟩)) (by rfl) (by kernel_rfl) (by kernel_rfl) (by kernel_rfl) (by kernel_rfl) (fun _ _ _ h => pan_put h) (Or.inl ⟨by kernel_rfl,fun W hS => (by obtain ⟨s0,s1,s2⟩:=hS; go_simp)⟩) hH ?_
  simp only [Act.put,List.setIfInBounds_toArray,List.set_cons_zero,List.set_cons_succ]
  refine g_take (i:=1) (v:=.pointer (some ⟨w.heap.size,1,none⟩)) (by rfl) (by kernel_rfl) (by kernel_rfl) (by kernel_rfl) (by kernel_rfl) (fun _ _ _ h => pan_put h) (Or.inl ⟨by kernel_rfl,fun W hS => (by obtain ⟨s0,s1,s2⟩:=hS; go_simp)⟩) hH ?_
  simp only [Act.put,List.setIfInBounds_toArray,List.set_cons_zero,List.set_cons_succ]
  refine g_take (i:=2) (v:=.string T) (by rfl) (by kernel_rfl) (by kernel_rfl) (by kernel_rfl) (by kernel_rfl) (fun _ _ _ h => pan_put h) (Or.inl ⟨by kernel_rfl,fun W hS => (by obtain ⟨s0,s1,s2⟩:=hS; go_simp)⟩) hH ?_
  simp only [Act.put,List.setIfInBounds_toArray,List.set_cons_zero,List.set_cons_succ]
  refine g_take (i:=3) (v:=.bool false) (by rfl) (by kernel_rfl) (by kernel_rfl) (by kernel_rfl) (by kernel_rfl) (fun _ _ _ h => pan_put h) (Or.inl ⟨by kernel_rfl,fun W hS => (by obtain ⟨s0,s1,s2⟩:=hS; go_simp)⟩) hH ?_
  simp only [Act.put,List.setIfInBounds_toArray,List.set_cons_zero,List.set_cons_succ]
  refine g_take (i:=4) (v:=.bool false) (by rfl) (by kernel_rfl) (by kernel_rfl) (by kernel_rfl) (by kernel_rfl) (fun _ _ _ h => pan_put h) (Or.inl ⟨by kernel_rfl,fun W hS => (by obtain ⟨s0,s1,s2⟩:=hS; go_simp)⟩) hH ?_
  simp only [Act.put,List.setIfInBounds_toArray,List.set_cons_zero,List.set_cons_succ]
  refine g_take (i:=5) (v:=.pointer (some ⟨w.heap.size,2,none⟩)) (by rfl) (by kernel_rfl) (by kernel_rfl) (by kernel_rfl) (by kernel_rfl) (fun _ _ _ h => pan_put h) (Or.inl ⟨by kernel_rfl,fun W hS => (by obtain ⟨s0,s1,s2⟩:=hS; go_simp)⟩) hH ?_
  simp only [Act.put,List.setIfInBounds_toArray,List.set_cons_zero,List.set_cons_succ]
  refine g_take (i:=6) (v:=.string V) (by rfl) (by kernel_rfl) (by kernel_rfl) (by kernel_rfl) (by kernel_rfl) (fun _ _ _ h => pan_put h) (Or.inl ⟨by kernel_rfl,fun W hS => (by obtain ⟨s0,s1,s2⟩:=hS; go_simp)⟩) hH ?_
  simp only [Act.put,List.setIfInBounds_toArray,List.set_cons_zero,List.set_cons_succ]
  refine g_one (i:=7) (by kernel_rfl) (by rfl) (fun K hK => ?_)
  go_simp
  refine (israw_any V W0.drew).mono ?_
  rintro e w1 ⟨rfl,hb1⟩
  have hb2 : Below W0.heap.size W0 w1:=(below_drew (Below.refl _ _)).trans hb1
  refine hK.out _ _ (fun _ => cells w1 hb2) (fun _ => ?_)
  clear hK K hH hb1
  cases hraw : rawL V.data.toList with
  | false =>
   have HRE2:=Lib.hid (HRE.out (by rw [hraw]; rfl))
   clear HRE HOK hraw
   refine g_one (i:=8) (by kernel_rfl) (by rfl) (fun K hK => ?_)
   go_simp
   refine hK.out _ _ (fun _ => cells w1 hb2) (fun _ => ?_)
   clear hK K
   refine g_one (i:=9) (by kernel_rfl) (by rfl) (fun K hK => ?_)
   go_simp
   refine hK.out _ _ (fun _ => cells w1 hb2) (fun _ => ?_)
   clear hK K
   refine g_one (i:=10) (by kernel_rfl) (by rfl) (fun K hK => ?_)
   go_simp
   refine (hRy w1 hb2).mono ?_
   rintro e w2 ⟨u,rfl,ho,hb⟩
   exact .inr ⟨_,rfl,HRE2.out w1 w2 u hb2 ho hb,rfl⟩
  | true =>
   have HOK2:=Lib.hid (HOK.out (by rw [hraw]; rfl))
   clear HRE HOK hraw hRy
   refine g_one (i:=8) (by kernel_rfl) (by rfl) (fun K hK => ?_)
   go_simp
   refine hK.out _ _ (fun _ => cells w1 hb2) (fun _ => ?_)
   clear hK K
   refine g_one (i:=9) (by kernel_rfl) (by rfl) (fun K hK => ?_)
   go_simp
   refine hK.out _ _ (fun _ => cells w1 hb2) (fun _ => ?_)
   clear hK K
   refine g_one (i:=10) (by kernel_rfl) (by rfl) (fun K hK => ?_)
   go_simp
   refine (refuse_no s w1).mono ?_
   rintro e w2 ⟨rfl,rfl⟩
   refine hK.out _ _ (fun _ => cells w2 hb2) (fun _ => ?_)
   clear hK K
   refine g_done (by kernel_rfl) (.inl ⟨by first | rfl | trivial,?_⟩) _
   have HE:=Lib.hid (HOK2.out w2 hb2)
   clear cells HOK2 hb2
   go_wp2
   go_end0
   exact HE.out
set_option maxHeartbeats 4000000 in
theorem e1_elem (n : Nd) (o : List UInt8) (hk : n.k = 10) (hV : VisAt 85 #[.string ⟨o.toArray⟩] (.ane o) n) (s : Nat) (path : List Nat) (g : Option Nat) (b1 b2 : Nat) (A : Option Addr) (c : Nat) (w : World) (hi : SI s w path g) (hA : NAt (fun b _ => b < s) w n A c) (hlen : path.length + sizeN n <= 100000)
 (h1 : Bes s g w b1 51 #[.pointer (some ⟨s,0,none⟩)]) (h2 : Bes s g w b2 9 #[.string ⟨o.toArray⟩]) :
 Calls Tryz.prog 118 #[ndVal n A c,.pointer (some ⟨b1,0,none⟩),.pointer (some ⟨b2,0,none⟩)] w (VPost s path g w (srN badS nextS n (.ane o))):=by
 have al:=al_nd w #[.int .i64 n.k,.string n.t,.string n.v,.slice A n.kids.length c]
 have HI:=Lib.hid hi
 have hi1:=hi.below al
 have s0:=sbox' (h1.below al)
 have s1:=sbox' (h2.below al)
 have HF : Hid (FrS s g w _ g):=Lib.hid (FrS.of_below al)
 obtain ⟨x0,x1,x2,x3⟩:=nbox (Blk.new w 24 #[.int .i64 n.k,.string n.t,.string n.v,.slice A n.kids.length c])
 have hK:=hV s path g A c _ hi1 (hA.lowb hi al) hlen
 unfold ndVal at hK ⊢
 simp only [List.append_toArray,List.cons_append,List.nil_append] at hK ⊢
 generalize srN badS nextS n (.ane o) = R at *
 rw [hk] at x0 hK HF s0 s1 x1 x2 x3 ⊢
 clear hi hi1 h1 h2 hA al hk hV
 go_enter Tryz.func118,Tryz.ntmps118
 go_wp2_with fail
 refine hK.mono ?_
 intro e w1 h
 have h2:=VPost.pre HI.out HF.out h
 rcases h2.cases_ with ⟨_,rfl,h3⟩ | ⟨u,rfl,h3⟩
 ·clear h h2 hK
  go_wp2
  go_end0
  exact h3
 ·exact ⟨rfl,h3⟩
end Go.Proofs.YtbnppjmmlfncmaaGreatDoor
