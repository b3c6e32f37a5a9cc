/-
  carry's reference: sections.
-/
import Derived.Test.YtbnppjmmlfncmaaGreatDoorCsA35
import Derived.Test.YtbnppjmmlfncmaaGreatDoorCsA08
set_option maxRecDepth 100000
set_option linter.unusedSimpArgs false
set_option linter.unusedVariables false
namespace Go.Proofs.YtbnppjmmlfncmaaGreatDoor
open Go.RowKit Go.Maps
theorem fb_drop (n : Nd) (l : List Nd) (j : Nat) (h : j < l.length) : flatBefore n (l.drop j) = if (l.getD j dNd).t = n.t then true else if deepF (l.getD j dNd) = true then false else flatBefore n (l.drop (j + 1)):=by
 rw [List.drop_eq_getElem_cons h,<- getDn h]
 simp only [flatBefore]
set_option maxHeartbeats 16000000 in
theorem rsections_any (way : List Nd) (n : Nd) (hd : Downs way) (hs : smallT n) (hsz : sizeN n * 1048900 <= 100000000000) (hn8 : n.k = 8 -> 0 < n.kids.length) (hup : (tabT way).isSome = true -> ∀ m ∈ (lastN way).kids,0 < m.kids.length) (hul : (lastN way).kids.length <= 100000) (hwl : way.length <= 1000) (hpl : ∀ path,tabT way = some path -> path.length <= 10000000000) (A : Option Addr) (c : Nat) (w : World) (hA : WayAt w way n A c) :
 Calls Tryz.prog 97 #[.slice A (way.length + 1) c] w fun e w' => e = .returned (.bool (sectT way n)) /\ Below w.heap.size w w':=by
 obtain ⟨hlc,hcm,b,o,rfl,hway,hlast⟩:=hA.nth
 obtain ⟨B,cB,q0,q1,q2,q3,hn1⟩:=hlast
 have al:=al_nd w #[.int .i64 n.k,.string n.t,.string n.v,.slice B n.kids.length cB]
 have bX:=Blk.new w 24 #[.int .i64 n.k,.string n.t,.string n.v,.slice B n.kids.length cB]
 obtain ⟨W0,hW0⟩ : ∃ W0,w.alloc (.cells #[.int .i64 n.k,.string n.t,.string n.v,.slice B n.kids.length cB] 24) = W0:=⟨_,rfl⟩
 rw [hW0] at al bX
 have HC : Hid (∀ W,Below W0.heap.size W0 W -> W.cell? ⟨w.heap.size,0,none⟩ = some (.int .i64 n.k) /\ W.cell? ⟨w.heap.size,1,none⟩ = some (.string n.t) /\ W.cell? ⟨w.heap.size,2,none⟩ = some (.string n.v) /\ W.cell? ⟨w.heap.size,3,none⟩ = some (.slice B n.kids.length cB)):=Lib.hid fun W h => nbox (bX.below h bX.lt)
 obtain ⟨x0,x1,x2,x3⟩:=HC.out W0 (Below.refl _ _)
 have HAL:=Lib.hid al
 have hlt1 : way.length < c:=by omega
 obtain ⟨R,hR⟩ : ∃ R,sectT way n = R:=⟨_,rfl⟩
 rw [hR]
 by_cases h10 : n.k = 10
 case pos =>
  have hR2 : false = R:=by rw [<- hR]; unfold sectT; rw [if_pos (.inl h10)]
  subst hR2
  rw [h10] at q0 x0 hW0
  clear hR HC bX hway hA hn1 hd hs hup hn8 hsz hul
  go_enter Tryz.func97,Tryz.ntmps97
  go_wp2
  go_ret
  exact ⟨rfl,HAL.out⟩
 case neg =>
 by_cases h1 : n.k = 1
 case pos =>
  have hR2 : false = R:=by rw [<- hR]; unfold sectT; rw [if_pos (.inr (.inl h1))]
  subst hR2
  rw [h1] at q0 x0 hW0
  clear hR HC bX hway hA hn1 hd hs hup hn8 hsz hul
  go_enter Tryz.func97,Tryz.ntmps97
  go_wp2
  go_ret
  exact ⟨rfl,HAL.out⟩
 case neg =>
 have y10:=ibeq h10
 have y1:=ibeq h1
 by_cases h0 : way = [] /\ n.k ≠ 7
 case pos =>
  have hR2 : false = R:=by rw [<- hR]; unfold sectT; rw [if_pos (.inr (.inr h0))]
  subst hR2
  have hw0 : way.length = 0:=by rw [h0.1]; rfl
  have y7:=ibeq h0.2
  have y7b:=ibne h0.2
  rw [hw0,Nat.zero_mul,Nat.add_zero] at q0 q1 q2 q3
  rw [hw0]
  clear h0 h10 h1
  clear hR HC bX hway hA hn1 hd hs hup hn8 hsz hul
  generalize n.k = k at *
  go_enter Tryz.func97,Tryz.ntmps97
  go_wp2
  go_ret
  exact ⟨rfl,HAL.out⟩
 case neg =>
 have hS : R = if n.k ≠ 8 then true else match tabT way with | none => true | some path => if deepF n = true then decide (wordN n + 2 + (if path ≠ [] \/ 2 < way.length + 1 then path.length + 1 else 0) + (if rowsB (n.kids.getD 0 dNd) = true then 2 else 0) <= 160) else flatBefore n (lastN way).kids && (elemN n || decide ((rowN n).length <= 160)):=by
  rw [<- hR]
  unfold sectT
  rw [if_neg (by rintro (h | h | h); exact h10 h; exact h1 h; exact h0 h)]
  rfl
 have hg : way.length = 0 -> n.k = 7:=fun h => Classical.byContradiction fun hk => h0 ⟨List.eq_nil_of_length_eq_zero h,hk⟩
 by_cases h8 : n.k = 8
 case neg =>
  rw [if_pos h8] at hS
  subst hS
  have y8:=ibeq h8
  have y8b:=ibne h8
  by_cases hw0 : way.length = 0
  case pos =>
   have hk7:=hg hw0
   rw [hw0,Nat.zero_mul,Nat.add_zero] at q0 q1 q2 q3
   rw [hw0]
   rw [hk7] at q0 x0 hW0
   clear h0 h10 h1 hg hk7 y10 y1 y8 y8b h8
   clear hR HC bX hway hA hn1 hd hs hup hn8 hsz hul
   go_enter Tryz.func97,Tryz.ntmps97
   go_wp2
   go_ret
   exact ⟨rfl,HAL.out⟩
  case neg =>
   have zl : ¬ (way.length : Int) + 1 = 1:=by omega
   have zl2:=ibeq zl
   have zl3 : ¬ (way.length : Int) = 0:=by omega
   have zl4:=ibeq zl3
   clear h0 h10 h1 hg h8
   clear hR HC bX hway hA hn1 hd hs hup hn8 hsz hul
   generalize n.k = k at *
   go_enter Tryz.func97,Tryz.ntmps97
   go_wp2
   go_ret
   exact ⟨rfl,HAL.out⟩
 case pos =>
 rw [if_neg (by omega)] at hS
 have hwp : 0 < way.length:=by
  rcases Nat.eq_zero_or_pos way.length with h | h
  ·have:=hg h; omega
  ·exact h
 have zl : ¬ (way.length : Int) + 1 = 1:=by omega
 have zl2:=ibeq zl
 have zl3 : ¬ (way.length : Int) = 0:=by omega
 have zl4:=ibeq zl3
 have hTB:=rtabled_any way hwp hd hwl _ b o c (by omega) hcm W0 (fun j h => kid_cells (hway j h) al)
 obtain ⟨T,hT⟩ : ∃ T,tabT way = T:=⟨_,rfl⟩
 rw [hT] at hS hTB hup
 rw [h8] at q0 x0 hW0
 cases T with
 | none =>
  have hS2 : true = R:=hS.symm
  subst hS2
  clear hR HC bX hway hA hn1 hd hs hup hn8 hsz hul h0 h10 h1 hg h8 y10 y1 hS hT
  go_enter Tryz.func97,Tryz.ntmps97
  go_wp2_with fail
  refine hTB.mono ?_
  rintro e w1 ⟨⟨p,rfl,_⟩,hb1⟩
  have HB:=Lib.hid (HAL.out.trans (hb1.mono HAL.out.size))
  clear hTB hb1
  go_wp2
  go_ret
  exact ⟨rfl,HB.out⟩
 | some path =>
  have hS2 : R = if deepF n = true then decide (wordN n + 2 + (if path ≠ [] \/ 2 < way.length + 1 then path.length + 1 else 0) + (if rowsB (n.kids.getD 0 dNd) = true then 2 else 0) <= 160) else flatBefore n (lastN way).kids && (elemN n || decide ((rowN n).length <= 160)):=hS
  clear hS
  have hpl2:=hpl path hT
  have hkp:=hn8 h8
  have hnt : n.t.size <= 1048576:=by obtain ⟨k,t,v,l⟩:=n; exact hs.1
  have hDp : ∀ W,Below W0.heap.size W0 W -> Calls Tryz.prog 134 #[.agg #[.int .i64 8,.string n.t,.string n.v,.slice B n.kids.length cB]] W fun e w' => e = .returned (.bool (deepF n)) /\ Below W.heap.size W w':=fun W hW => by
   have:=rdeep_any n hkp _ B cB W ((hn1.below al).below hW)
   rw [h8] at this
   exact this
  have HC0:=HC.out
  rw [h8] at HC0
  cases hdp : deepF n with
  | true =>
   rw [hdp,if_pos rfl] at hS2
   rw [hdp] at hDp
   obtain ⟨hkc,hkm,hkk⟩:=(NAt.def_ _ _ _).1 (hn1.below al)
   obtain ⟨bm,om,rfl,_,hkid⟩:=hkk hkp
   have hm:=hkid 0 hkp
   rw [<- getDn hkp] at hm
   simp only [Nat.zero_mul,Nat.add_zero] at hm
   have hkm2 : cB <= 9223372036854775807:=by simpa [maxLen] using hkm
   have hcB0 : 0 < cB:=by omega
   have hkp2 : (0 : Int) < n.kids.length:=by omega
   have hm':=fun (W : World) (hW : Below W0.heap.size W0 W) => kid_cells hm hW
   clear hkid hkk hm hA hn1 bX hR hway hd hup hul hsz hT hpl hn8 hs hg h0 h10 h1 y10 y1
   generalize n.kids.getD 0 dNd = m at *
   have hWo:=fun W => rword_any n.t W (Nat.le_trans hnt (by decide))
   have hwn : (wordL n.t.data.toList).length = wordN n:=rfl
   have hwn2 : wordN n <= 1048576 + 290:=by
    have h1:=wordL_len n.t.data.toList
    have h2 : n.t.data.toList.length = n.t.size:=by simp
    unfold wordN
    omega
   have hWS : (⟨(wordL n.t.data.toList).toArray⟩ : ByteArray).size = wordN n:=by rw [sizeOf_]; exact hwn
   have hPS : (⟨path.toArray⟩ : ByteArray).size = path.length:=sizeOf_ path
   generalize (⟨(wordL n.t.data.toList).toArray⟩ : ByteArray) = WS at *
   generalize wordN n = WN at *
   generalize n.kids.length = KL at *
   clear hdp h8 hwn
   generalize n.t = nt at *
   generalize n.v = nv at *
   have hRo : ∀ (W : World),Below W0.heap.size W0 W -> ∃ (Bm : Option Addr) (cm : Nat),W.cell? ⟨bm,om,none⟩ = some (.int .i64 m.k) /\ W.cell? ⟨bm,om + 1,none⟩ = some (.string m.t) /\ W.cell? ⟨bm,om + 2,none⟩ = some (.string m.v) /\ W.cell? ⟨bm,om + 3,none⟩ = some (.slice Bm m.kids.length cm) /\ Calls Tryz.prog 135 #[.agg #[.int .i64 m.k,.string m.t,.string m.v,.slice Bm m.kids.length cm]] W fun e w' => e = .returned (.bool (rowsB m)) /\ Below W.heap.size W w':=fun W hW => by
    obtain ⟨Bm,cm,m0,m1,m2,m3,hnm⟩:=hm' W hW
    exact ⟨Bm,cm,m0,m1,m2,m3,rrows_any m _ Bm cm W hnm⟩
   have HRo:=Lib.hid hRo
   have HDp:=Lib.hid hDp
   have HCC:=Lib.hid HC0
   clear hm' hRo hDp HC0 HC
   cases hr : rowsB m with
   | true =>
    by_cases hpe : path = []
    case pos =>
     by_cases hM : way.length <= 1
     case pos =>
      rw [if_neg (by rintro (h | h); exact h hpe; omega)] at hS2
      subst hpe
      have hM1 : way.length = 1:=by omega
      rw [hM1] at q0 q1 q2 q3 hlt1 hlc hTB ⊢
      clear hM1 zl zl2 zl3 zl4 hM hwp hwl
      rw [hr,if_pos rfl] at hS2
      have HX : Hid (∀ X : Int,X = (WN : Int) + 2 + 2 -> decide (X <= 160) = R):=Lib.hid fun X hX => by
       rw [hX,hS2]
       exact decide_eq_decide.2 (by omega)
      clear hS2
      go_enter Tryz.func97,Tryz.ntmps97
      go_wp2_with fail
      clear hW0
      refine hTB.mono ?_
      rintro e w1 ⟨⟨p,rfl,hpp⟩,hb1⟩
      obtain rfl:=hpp _ rfl
      clear hpp hTB
      rw [show (⟨([] : List UInt8).toArray⟩ : ByteArray) = ⟨#[]⟩ from rfl]
      obtain ⟨x0,x1,x2,x3⟩:=HCC.out w1 hb1
      have hd1:=HDp.out w1 hb1
      have HB1:=Lib.hid hb1
      clear hb1
      go_wp2_with fail
      refine hd1.mono ?_
      rintro e w2 ⟨rfl,hb2⟩
      have hb2:=HB1.out.trans (hb2.mono HB1.out.size)
      obtain ⟨x0,x1,x2,x3⟩:=HCC.out w2 hb2
      obtain ⟨Bm,cm,m0,m1,m2,m3,hr1⟩:=HRo.out w2 hb2
      rw [hr] at hr1
      have HB2:=Lib.hid hb2
      clear hb2 hd1 HB1 HDp HRo
      go_wp2_with fail
      refine hr1.mono ?_
      rintro e w3 ⟨rfl,hb3⟩
      have hb3:=HB2.out.trans (hb3.mono HB2.out.size)
      obtain ⟨x0,x1,x2,x3⟩:=HCC.out w3 hb3
      have HB3:=Lib.hid hb3
      clear hb3 hr1 HB2 m0 m1 m2 m3
      go_wp2_with fail
      refine (hWo _).mono ?_
      rintro e w4 ⟨rfl,hb4⟩
      have HB:=Lib.hid (HAL.out.trans ((HB3.out.trans (hb4.mono HB3.out.size)).mono HAL.out.size))
      clear hb4 HB3 hWo
      go_wp2
      go_ret
      exact ⟨ret_bool (HX.out _ (by omega)),HB.out⟩
     case neg =>
      rw [if_pos (.inr (by omega))] at hS2
      subst hpe
      clear hPS
      have hPS : (⟨#[]⟩ : ByteArray).size = 0:=rfl
      have zm : (2 : Int) < (way.length : Int) + 1:=by omega
      rw [hr,if_pos rfl] at hS2
      have HX : Hid (∀ X : Int,X = (WN : Int) + 2 + 0 + 1 + 2 -> decide (X <= 160) = R):=Lib.hid fun X hX => by
       rw [hX,hS2]
       exact decide_eq_decide.2 (by simp only [List.length_nil]; omega)
      clear hS2
      go_enter Tryz.func97,Tryz.ntmps97
      go_wp2_with fail
      clear hW0
      refine hTB.mono ?_
      rintro e w1 ⟨⟨p,rfl,hpp⟩,hb1⟩
      obtain rfl:=hpp _ rfl
      clear hpp hTB
      rw [show (⟨([] : List UInt8).toArray⟩ : ByteArray) = ⟨#[]⟩ from rfl]
      obtain ⟨x0,x1,x2,x3⟩:=HCC.out w1 hb1
      have hd1:=HDp.out w1 hb1
      have HB1:=Lib.hid hb1
      clear hb1
      go_wp2_with fail
      refine hd1.mono ?_
      rintro e w2 ⟨rfl,hb2⟩
      have hb2:=HB1.out.trans (hb2.mono HB1.out.size)
      obtain ⟨x0,x1,x2,x3⟩:=HCC.out w2 hb2
      obtain ⟨Bm,cm,m0,m1,m2,m3,hr1⟩:=HRo.out w2 hb2
      rw [hr] at hr1
      have HB2:=Lib.hid hb2
      clear hb2 hd1 HB1 HDp HRo
      go_wp2_with fail
      refine hr1.mono ?_
      rintro e w3 ⟨rfl,hb3⟩
      have hb3:=HB2.out.trans (hb3.mono HB2.out.size)
      obtain ⟨x0,x1,x2,x3⟩:=HCC.out w3 hb3
      have HB3:=Lib.hid hb3
      clear hb3 hr1 HB2 m0 m1 m2 m3
      go_wp2_with fail
      refine (hWo _).mono ?_
      rintro e w4 ⟨rfl,hb4⟩
      have HB:=Lib.hid (HAL.out.trans ((HB3.out.trans (hb4.mono HB3.out.size)).mono HAL.out.size))
      clear hb4 HB3 hWo
      go_wp2
      go_ret
      exact ⟨ret_bool (HX.out _ (by omega)),HB.out⟩
    case neg =>
     rw [if_pos (.inl hpe)] at hS2
     have n1 : (path == []) = false:=by rw [beq_eq_false_iff_ne]; exact hpe
     have n3 : path.isEmpty = false:=by simpa using hpe
     have n4 : ¬ path.isEmpty = true:=by simpa using hpe
     obtain ⟨n5,n6⟩:=str_neq (y:=[]) hpe
     have t0 : (⟨([] : List UInt8).toArray⟩ : ByteArray).toList = []:=Lib.toList_data _
     rw [t0] at n5 n6
     clear t0
     rw [hr,if_pos rfl] at hS2
     have HX : Hid (∀ X : Int,X = (WN : Int) + 2 + (path.length : Int) + 1 + 2 -> decide (X <= 160) = R):=Lib.hid fun X hX => by
      rw [hX,hS2]
      exact decide_eq_decide.2 (by omega)
     clear hS2
     go_enter Tryz.func97,Tryz.ntmps97
     go_wp2_with fail
     clear hW0
     refine hTB.mono ?_
     rintro e w1 ⟨⟨p,rfl,hpp⟩,hb1⟩
     obtain rfl:=hpp _ rfl
     clear hpp hTB
     obtain ⟨x0,x1,x2,x3⟩:=HCC.out w1 hb1
     have hd1:=HDp.out w1 hb1
     have HB1:=Lib.hid hb1
     clear hb1
     go_wp2_with fail
     refine hd1.mono ?_
     rintro e w2 ⟨rfl,hb2⟩
     have hb2:=HB1.out.trans (hb2.mono HB1.out.size)
     obtain ⟨x0,x1,x2,x3⟩:=HCC.out w2 hb2
     obtain ⟨Bm,cm,m0,m1,m2,m3,hr1⟩:=HRo.out w2 hb2
     rw [hr] at hr1
     have HB2:=Lib.hid hb2
     clear hb2 hd1 HB1 HDp HRo
     go_wp2_with fail
     refine hr1.mono ?_
     rintro e w3 ⟨rfl,hb3⟩
     have hb3:=HB2.out.trans (hb3.mono HB2.out.size)
     obtain ⟨x0,x1,x2,x3⟩:=HCC.out w3 hb3
     have HB3:=Lib.hid hb3
     clear hb3 hr1 HB2 m0 m1 m2 m3
     go_wp2_with fail
     refine (hWo _).mono ?_
     rintro e w4 ⟨rfl,hb4⟩
     have HB:=Lib.hid (HAL.out.trans ((HB3.out.trans (hb4.mono HB3.out.size)).mono HAL.out.size))
     clear hb4 HB3 hWo
     go_wp2
     go_ret
     exact ⟨ret_bool (HX.out _ (by omega)),HB.out⟩
   | false =>
    by_cases hpe : path = []
    case pos =>
     by_cases hM : way.length <= 1
     case pos =>
      rw [if_neg (by rintro (h | h); exact h hpe; omega)] at hS2
      subst hpe
      have hM1 : way.length = 1:=by omega
      rw [hM1] at q0 q1 q2 q3 hlt1 hlc hTB ⊢
      clear hM1 zl zl2 zl3 zl4 hM hwp hwl
      rw [hr,if_neg (by decide)] at hS2
      have HX : Hid (∀ X : Int,X = (WN : Int) + 2 -> decide (X <= 160) = R):=Lib.hid fun X hX => by
       rw [hX,hS2]
       exact decide_eq_decide.2 (by omega)
      clear hS2
      go_enter Tryz.func97,Tryz.ntmps97
      go_wp2_with fail
      clear hW0
      refine hTB.mono ?_
      rintro e w1 ⟨⟨p,rfl,hpp⟩,hb1⟩
      obtain rfl:=hpp _ rfl
      clear hpp hTB
      rw [show (⟨([] : List UInt8).toArray⟩ : ByteArray) = ⟨#[]⟩ from rfl]
      obtain ⟨x0,x1,x2,x3⟩:=HCC.out w1 hb1
      have hd1:=HDp.out w1 hb1
      have HB1:=Lib.hid hb1
      clear hb1
      go_wp2_with fail
      refine hd1.mono ?_
      rintro e w2 ⟨rfl,hb2⟩
      have hb2:=HB1.out.trans (hb2.mono HB1.out.size)
      obtain ⟨x0,x1,x2,x3⟩:=HCC.out w2 hb2
      obtain ⟨Bm,cm,m0,m1,m2,m3,hr1⟩:=HRo.out w2 hb2
      rw [hr] at hr1
      have HB2:=Lib.hid hb2
      clear hb2 hd1 HB1 HDp HRo
      go_wp2_with fail
      refine hr1.mono ?_
      rintro e w3 ⟨rfl,hb3⟩
      have hb3:=HB2.out.trans (hb3.mono HB2.out.size)
      obtain ⟨x0,x1,x2,x3⟩:=HCC.out w3 hb3
      have HB3:=Lib.hid hb3
      clear hb3 hr1 HB2 m0 m1 m2 m3
      go_wp2_with fail
      refine (hWo _).mono ?_
      rintro e w4 ⟨rfl,hb4⟩
      have HB:=Lib.hid (HAL.out.trans ((HB3.out.trans (hb4.mono HB3.out.size)).mono HAL.out.size))
      clear hb4 HB3 hWo
      go_wp2
      go_ret
      exact ⟨ret_bool (HX.out _ (by omega)),HB.out⟩
     case neg =>
      rw [if_pos (.inr (by omega))] at hS2
      subst hpe
      clear hPS
      have hPS : (⟨#[]⟩ : ByteArray).size = 0:=rfl
      have zm : (2 : Int) < (way.length : Int) + 1:=by omega
      rw [hr,if_neg (by decide)] at hS2
      have HX : Hid (∀ X : Int,X = (WN : Int) + 2 + 0 + 1 -> decide (X <= 160) = R):=Lib.hid fun X hX => by
       rw [hX,hS2]
       exact decide_eq_decide.2 (by simp only [List.length_nil]; omega)
      clear hS2
      go_enter Tryz.func97,Tryz.ntmps97
      go_wp2_with fail
      clear hW0
      refine hTB.mono ?_
      rintro e w1 ⟨⟨p,rfl,hpp⟩,hb1⟩
      obtain rfl:=hpp _ rfl
      clear hpp hTB
      rw [show (⟨([] : List UInt8).toArray⟩ : ByteArray) = ⟨#[]⟩ from rfl]
      obtain ⟨x0,x1,x2,x3⟩:=HCC.out w1 hb1
      have hd1:=HDp.out w1 hb1
      have HB1:=Lib.hid hb1
      clear hb1
      go_wp2_with fail
      refine hd1.mono ?_
      rintro e w2 ⟨rfl,hb2⟩
      have hb2:=HB1.out.trans (hb2.mono HB1.out.size)
      obtain ⟨x0,x1,x2,x3⟩:=HCC.out w2 hb2
      obtain ⟨Bm,cm,m0,m1,m2,m3,hr1⟩:=HRo.out w2 hb2
      rw [hr] at hr1
      have HB2:=Lib.hid hb2
      clear hb2 hd1 HB1 HDp HRo
      go_wp2_with fail
      refine hr1.mono ?_
      rintro e w3 ⟨rfl,hb3⟩
      have hb3:=HB2.out.trans (hb3.mono HB2.out.size)
      obtain ⟨x0,x1,x2,x3⟩:=HCC.out w3 hb3
      have HB3:=Lib.hid hb3
      clear hb3 hr1 HB2 m0 m1 m2 m3
      go_wp2_with fail
      refine (hWo _).mono ?_
      rintro e w4 ⟨rfl,hb4⟩
      have HB:=Lib.hid (HAL.out.trans ((HB3.out.trans (hb4.mono HB3.out.size)).mono HAL.out.size))
      clear hb4 HB3 hWo
      go_wp2
      go_ret
      exact ⟨ret_bool (HX.out _ (by omega)),HB.out⟩
    case neg =>
     rw [if_pos (.inl hpe)] at hS2
     have n1 : (path == []) = false:=by rw [beq_eq_false_iff_ne]; exact hpe
     have n3 : path.isEmpty = false:=by simpa using hpe
     have n4 : ¬ path.isEmpty = true:=by simpa using hpe
     obtain ⟨n5,n6⟩:=str_neq (y:=[]) hpe
     have t0 : (⟨([] : List UInt8).toArray⟩ : ByteArray).toList = []:=Lib.toList_data _
     rw [t0] at n5 n6
     clear t0
     rw [hr,if_neg (by decide)] at hS2
     have HX : Hid (∀ X : Int,X = (WN : Int) + 2 + (path.length : Int) + 1 -> decide (X <= 160) = R):=Lib.hid fun X hX => by
      rw [hX,hS2]
      exact decide_eq_decide.2 (by omega)
     clear hS2
     go_enter Tryz.func97,Tryz.ntmps97
     go_wp2_with fail
     clear hW0
     refine hTB.mono ?_
     rintro e w1 ⟨⟨p,rfl,hpp⟩,hb1⟩
     obtain rfl:=hpp _ rfl
     clear hpp hTB
     obtain ⟨x0,x1,x2,x3⟩:=HCC.out w1 hb1
     have hd1:=HDp.out w1 hb1
     have HB1:=Lib.hid hb1
     clear hb1
     go_wp2_with fail
     refine hd1.mono ?_
     rintro e w2 ⟨rfl,hb2⟩
     have hb2:=HB1.out.trans (hb2.mono HB1.out.size)
     obtain ⟨x0,x1,x2,x3⟩:=HCC.out w2 hb2
     obtain ⟨Bm,cm,m0,m1,m2,m3,hr1⟩:=HRo.out w2 hb2
     rw [hr] at hr1
     have HB2:=Lib.hid hb2
     clear hb2 hd1 HB1 HDp HRo
     go_wp2_with fail
     refine hr1.mono ?_
     rintro e w3 ⟨rfl,hb3⟩
     have hb3:=HB2.out.trans (hb3.mono HB2.out.size)
     obtain ⟨x0,x1,x2,x3⟩:=HCC.out w3 hb3
     have HB3:=Lib.hid hb3
     clear hb3 hr1 HB2 m0 m1 m2 m3
     go_wp2_with fail
     refine (hWo _).mono ?_
     rintro e w4 ⟨rfl,hb4⟩
     have HB:=Lib.hid (HAL.out.trans ((HB3.out.trans (hb4.mono HB3.out.size)).mono HAL.out.size))
     clear hb4 HB3 hWo
     go_wp2
     go_ret
     exact ⟨ret_bool (HX.out _ (by omega)),HB.out⟩
  | false =>
   rw [hdp,if_neg (by decide)] at hS2
   rw [hdp] at hDp
   obtain ⟨M,hM⟩ : ∃ M,way.length = M + 1:=⟨way.length - 1,by omega⟩
   have hupk:=hup rfl
   obtain ⟨up,hupd⟩ : ∃ up,lastN way = up:=⟨_,rfl⟩
   have hKU:=kid_cells (hway M (by omega)) al
   rw [show way.getD M dNd = lastN way by rw [<- lastN_at hwp,hM,Nat.add_sub_cancel],hupd] at hKU
   rw [hupd] at hS2 hupk hul
   have hUP : ∀ (W : World),Below W0.heap.size W0 W -> ∃ (Bu : Option Addr) (cu : Nat),W.cell? ⟨b,o + M * 4,none⟩ = some (.int .i64 up.k) /\ W.cell? ⟨b,o + M * 4 + 1,none⟩ = some (.string up.t) /\ W.cell? ⟨b,o + M * 4 + 2,none⟩ = some (.string up.v) /\ W.cell? ⟨b,o + M * 4 + 3,none⟩ = some (.slice Bu up.kids.length cu) /\ NAt (fun _ _ => True) W up Bu cu:=fun W hW => kid_cells hKU hW
   have hEl : ∀ W,Below W0.heap.size W0 W -> Calls Tryz.prog 136 #[.agg #[.int .i64 8,.string n.t,.string n.v,.slice B n.kids.length cB]] W fun e w' => e = .returned (.bool (elemN n)) /\ Below W.heap.size W w':=fun W hW => by
    have:=relem_any n _ B cB W ((hn1.below al).below hW)
    rw [h8] at this
    exact this
   have hRw : ∀ W,Below W0.heap.size W0 W -> Calls Tryz.prog 132 #[.agg #[.int .i64 8,.string n.t,.string n.v,.slice B n.kids.length cB]] W fun e w' => e = .returned (.string ⟨(rowN n).toArray⟩) /\ Below W.heap.size W w':=fun W hW => by
    have:=rrow_any n _ B cB W ((hn1.below al).below hW) hs hsz
    rw [h8] at this
    exact this
   have hRS : (⟨(rowN n).toArray⟩ : ByteArray).size = (rowN n).length:=sizeOf_ _
   have HFD : Hid _:=Lib.hid (fb_drop n up.kids)
   have HFE : Hid (flatBefore n (up.kids.drop up.kids.length) = true):=Lib.hid (by rw [List.drop_length]; rfl)
   obtain ⟨FB,hFB⟩ : ∃ FB,flatBefore n up.kids = FB:=⟨_,rfl⟩
   rw [hFB] at hS2
   have HF0 : Hid (flatBefore n (up.kids.drop 0) = FB):=Lib.hid (by rw [List.drop_zero]; exact hFB)
   have HKP : Hid (∀ j (h : j < up.kids.length),0 < (up.kids.getD j dNd).kids.length):=Lib.hid fun j h => hupk _ (by rw [getDn h]; exact List.getElem_mem h)
   have HS:=Lib.hid hS2
   have HUP:=Lib.hid hUP
   have HEl:=Lib.hid hEl
   have HRw:=Lib.hid hRw
   have HDp:=Lib.hid hDp
   have HCC:=Lib.hid HC0
   rw [hM] at q0 q1 q2 q3 hlt1 hlc hTB zl zl2 zl3 zl4 ⊢
   clear hKU hUP hEl hRw hDp HC0 HC hupk hFB hS2 hupd hA hn1 bX hR hway hd hup hsz hT hpl hn8 hs hg h0 h10 h1 y10 y1 hdp h8 hkp
   generalize (⟨(rowN n).toArray⟩ : ByteArray) = RS at *
   generalize (rowN n).length = RN at *
   generalize elemN n = EN at *
   go_enter Tryz.func97,Tryz.ntmps97
   go_wp2_with fail
   clear hW0
   refine hTB.mono ?_
   rintro e w1 ⟨⟨p,rfl,_⟩,hb1⟩
   clear hTB
   obtain ⟨x0,x1,x2,x3⟩:=HCC.out w1 hb1
   have hd1:=HDp.out w1 hb1
   have HB1:=Lib.hid hb1
   clear hb1
   go_wp2_with fail
   refine hd1.mono ?_
   rintro e w2 ⟨rfl,hb2⟩
   have hb2:=HB1.out.trans (hb2.mono HB1.out.size)
   obtain ⟨x0,x1,x2,x3⟩:=HCC.out w2 hb2
   obtain ⟨Bu,cu,u0,u1,u2,u3,hnu⟩:=HUP.out w2 hb2
   have HB2:=Lib.hid hb2
   clear hd1 HB1 HDp HUP
   have al3:=al_nd w2 #[.int .i64 up.k,.string up.t,.string up.v,.slice Bu up.kids.length cu]
   have bU:=Blk.new w2 24 #[.int .i64 up.k,.string up.t,.string up.v,.slice Bu up.kids.length cu]
   obtain ⟨v0,v1,v2,v3⟩:=nbox bU
   obtain ⟨x0,x1,x2,x3⟩:=HCC.out _ (hb2.trans (al3.mono hb2.size))
   obtain ⟨huc,hum,huk⟩:=(NAt.def_ _ _ _).1 hnu
   have hum2 : cu <= 9223372036854775807:=by simpa [maxLen] using hum
   obtain ⟨W3,hW3⟩ : ∃ W3,w2.alloc (.cells #[.int .i64 up.k,.string up.t,.string up.v,.slice Bu up.kids.length cu] 24) = W3:=⟨_,rfl⟩
   rw [hW3] at al3 bU v0 v1 v2 v3 x0 x1 x2 x3
   have HUK : Hid (∀ j (h : j < up.kids.length),∃ b2 o2,Bu = some ⟨b2,o2,none⟩ /\ ∀ W,Below W3.heap.size W3 W -> KidAt (fun _ _ => True) W b2 (o2 + j * 4) (up.kids.getD j dNd)):=Lib.hid fun j h => by
    obtain ⟨b2,o2,h1,_,h3⟩:=huk (by omega)
    refine ⟨b2,o2,h1,fun W hW => ?_⟩
    have h4:=h3 j h
    rw [<- getDn h] at h4
    exact kid_cells (kid_cells h4 al3) hW
   have HA3:=Lib.hid (hb2.trans (al3.mono hb2.size))
   have HBU:=Lib.hid bU
   clear huk hnu bU al3 hb2
   go_wp2
   clear hW3
   simp only [show M + 1 + 1 - 2 = M from by omega]
   go_loopw [10] (fun i wr => ∃ j : Nat,j <= up.kids.length /\ i = .int .i64 (j : Int) /\ Hid (flatBefore n (up.kids.drop j) = FB) /\ Hid (Below W3.heap.size W3 wr)) (fun i _ => up.kids.length - (intOf i).toNat)
   case atStart => exact ⟨0,Nat.zero_le _,rfl,HF0,Lib.hid (Below.refl _ _)⟩
   case round =>
    obtain ⟨j,hj,rfl,HP,HW⟩:=hrel
    have hb0 : Below W0.heap.size W0 wr:=HA3.out.trans (HW.out.mono HA3.out.size)
    obtain ⟨x0,x1,x2,x3⟩:=HCC.out wr hb0
    have v3 : wr.cell? ⟨w2.heap.size,3,none⟩ = some (.slice Bu up.kids.length cu):=(HBU.out.below HW.out HBU.out.lt).cell 3
    have HB0:=Lib.hid hb0
    clear hb0
    by_cases hlt : j < up.kids.length
    case pos =>
     have hst:=HFD.out j hlt
     rw [HP.out] at hst
     have hkp:=HKP.out j hlt
     obtain ⟨b2,o2,rfl,hkk⟩:=HUK.out j hlt
     have hk1:=hkk wr HW.out
     obtain ⟨_,_,p0,p1,p2,p3,_⟩:=hkk wr HW.out
     have hjc : j < cu:=by omega
     clear HFD HFE HKP HUK HF0
     obtain ⟨kd,hkd⟩ : ∃ kd,up.kids.getD j dNd = kd:=⟨_,rfl⟩
     rw [hkd] at hst hkp hkk hk1 p0 p1 p2 p3
     clear hkd
     by_cases ht : kd.t = n.t
     case pos =>
      rw [if_pos ht] at hst
      rw [ht] at p1
      have HFT:=Lib.hid hst.symm
      clear hst hk1 hkk hkp ht
      have hr0:=HS.out
      rw [<- HFT.out,Bool.true_and] at hr0
      have HR:=Lib.hid hr0
      have hbd : Below W0.heap.size W0 wr.drew:=HB0.out.trans (below_drew (Below.refl _ _) |>.mono HB0.out.size)
      have hE:=HEl.out wr.drew hbd
      have HBD:=Lib.hid hbd
      clear hr0 hbd HS HEl HFT HP
      go_wp2
      go_region
      obtain ⟨x0,x1,x2,x3⟩:=HCC.out wr.drew HBD.out
      go_wp2_with fail
      refine hE.mono ?_
      rintro e w5 ⟨rfl,hb5⟩
      have hb6:=HBD.out.trans (hb5.mono HBD.out.size)
      obtain ⟨x0,x1,x2,x3⟩:=HCC.out w5 hb6
      have hRR:=HRw.out w5 hb6
      have HB6:=Lib.hid hb6
      clear hb5 hb6 hE HRw
      cases EN with
      | true =>
       have HR2 : Hid (true = R):=Lib.hid HR.out.symm
       have HBE:=Lib.hid (HAL.out.trans (HB6.out.mono HAL.out.size))
       clear HR hRR
       go_wp2
       go_ret
       exact ⟨ret_bool HR2.out,HBE.out⟩
      | false =>
       have HR2 : Hid (∀ X : Int,X = (RN : Int) -> decide (X <= 160) = R):=Lib.hid fun X hX => by
        rw [hX,HR.out,Bool.false_or]
        exact decide_eq_decide.2 (by omega)
       clear HR
       go_wp2_with fail
       refine hRR.mono ?_
       rintro e w7 ⟨rfl,hb7⟩
       have HBE:=Lib.hid (HAL.out.trans ((HB6.out.trans (hb7.mono HB6.out.size)).mono HAL.out.size))
       clear hRR hb7
       go_wp2
       go_ret
       exact ⟨ret_bool (HR2.out _ (by omega)),HBE.out⟩
     case neg =>
      rw [if_neg ht] at hst
      obtain ⟨z1,z2⟩:=str_diff ht
      have hDk : ∀ W,Below W3.heap.size W3 W -> ∃ (B4 : Option Addr) (c4 : Nat),W.cell? ⟨b2,o2 + j * 4,none⟩ = some (.int .i64 kd.k) /\ W.cell? ⟨b2,o2 + j * 4 + 1,none⟩ = some (.string kd.t) /\ W.cell? ⟨b2,o2 + j * 4 + 2,none⟩ = some (.string kd.v) /\ W.cell? ⟨b2,o2 + j * 4 + 3,none⟩ = some (.slice B4 kd.kids.length c4) /\ Calls Tryz.prog 134 #[.agg #[.int .i64 kd.k,.string kd.t,.string kd.v,.slice B4 kd.kids.length c4]] W fun e w' => e = .returned (.bool (deepF kd)) /\ Below W.heap.size W w':=fun W hW => by
       obtain ⟨B4,c4,g0,g1,g2,g3,hn4⟩:=hkk W hW
       exact ⟨B4,c4,g0,g1,g2,g3,rdeep_any kd hkp _ B4 c4 W hn4⟩
      have hWd : Below W3.heap.size W3 wr.drew:=HW.out.trans (below_drew (Below.refl _ _) |>.mono HW.out.size)
      obtain ⟨B4,c4,g0,g1,g2,g3,hD4⟩:=hDk wr.drew hWd
      have HWD:=Lib.hid hWd
      clear hDk hkk hk1 ht hWd
      go_wp2
      go_region
      have v3 : wr.drew.cell? ⟨w2.heap.size,3,none⟩ = some (.slice (some ⟨b2,o2,none⟩) up.kids.length cu):=v3
      go_wp2_with fail
      refine hD4.mono ?_
      rintro e w5 ⟨rfl,hb5⟩
      have HW5:=Lib.hid (HWD.out.trans (hb5.mono HWD.out.size))
      clear hb5 hD4
      cases hdk : deepF kd with
      | true =>
       rw [hdk,if_pos rfl] at hst
       have hr0:=HS.out
       rw [hst,Bool.false_and] at hr0
       have HR2 : Hid (false = R):=Lib.hid hr0.symm
       have HBE:=Lib.hid (HAL.out.trans ((HA3.out.trans (HW5.out.mono HA3.out.size)).mono HAL.out.size))
       clear hst hr0 HS hdk
       go_wp2
       go_ret
       exact ⟨ret_bool HR2.out,HBE.out⟩
      | false =>
       rw [hdk,if_neg (by decide)] at hst
       have HN:=Lib.hid hst.symm
       clear hst hdk
       go_wp2
       go_roundw
       case rel => exact ⟨j + 1,hlt,by go_num,HN,HW5⟩
       case measure => first | (simp [intOf]; done) | (simp [intOf]; omega)
    case neg =>
     obtain rfl : j = up.kids.length:=by omega
     have hft:=HFE.out
     rw [HP.out] at hft
     have HFT:=Lib.hid hft.symm
     clear hft HFD HFE HKP HUK HF0
     have hr0:=HS.out
     rw [<- HFT.out,Bool.true_and] at hr0
     have HR:=Lib.hid hr0
     have hbd : Below W0.heap.size W0 wr.drew:=HB0.out.trans (below_drew (Below.refl _ _) |>.mono HB0.out.size)
     have hE:=HEl.out wr.drew hbd
     have HBD:=Lib.hid hbd
     clear hr0 hbd HS HEl HFT HP
     go_wp2
     go_region
     obtain ⟨x0,x1,x2,x3⟩:=HCC.out wr.drew HBD.out
     go_wp2_with fail
     refine hE.mono ?_
     rintro e w5 ⟨rfl,hb5⟩
     have hb6:=HBD.out.trans (hb5.mono HBD.out.size)
     obtain ⟨x0,x1,x2,x3⟩:=HCC.out w5 hb6
     have hRR:=HRw.out w5 hb6
     have HB6:=Lib.hid hb6
     clear hb5 hb6 hE HRw
     cases EN with
     | true =>
      have HR2 : Hid (true = R):=Lib.hid HR.out.symm
      have HBE:=Lib.hid (HAL.out.trans (HB6.out.mono HAL.out.size))
      clear HR hRR
      go_wp2
      go_ret
      exact ⟨ret_bool HR2.out,HBE.out⟩
     | false =>
      have HR2 : Hid (∀ X : Int,X = (RN : Int) -> decide (X <= 160) = R):=Lib.hid fun X hX => by
       rw [hX,HR.out,Bool.false_or]
       exact decide_eq_decide.2 (by omega)
      clear HR
      go_wp2_with fail
      refine hRR.mono ?_
      rintro e w7 ⟨rfl,hb7⟩
      have HBE:=Lib.hid (HAL.out.trans ((HB6.out.trans (hb7.mono HB6.out.size)).mono HAL.out.size))
      clear hRR hb7
      go_wp2
      go_ret
      exact ⟨ret_bool (HR2.out _ (by omega)),HBE.out⟩
end Go.Proofs.YtbnppjmmlfncmaaGreatDoor
