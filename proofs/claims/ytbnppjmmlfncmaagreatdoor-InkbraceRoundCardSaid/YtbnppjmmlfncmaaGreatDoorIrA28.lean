/-
  The reference's Step (hexaplaref05) within a map: an event that is no key.
-/
import Derived.Test.YtbnppjmmlfncmaaGreatDoorIrA26
set_option maxRecDepth 100000
set_option linter.unusedSectionVars false
namespace Go.Proofs.YtbnppjmmlfncmaaGreatDoor
open Go.RowKit
variable [Fo]
set_option maxHeartbeats 40000000 in
theorem rstep_7 (w : World) (v : Value) (had : List Ev) (p : Pt) (r : List Pt) (x : Ev) (pl : Nat) (ps : List Nat) (hv : ERead w v had) (hn : had.length <= 100000) (hs : x.t.size <= 1099511627776) (hs2 : x.v.size <= 1099511627776) (hf : formedB x = true)
 (ha : atL had = pl :: ps) (hI : Inner had 0 pl p) (hl : r.length = ps.length + 1) (hG : r.length <= 6) (hp : p.kind = 7) (hk : x.k ≠ 8 /\ x.k ≠ 11) :
 Calls Tryz.prog 63 #[v,evV x] w (RSPost w (p :: r) x):=by
 obtain ⟨hpl,hkd,_,_,hlast,_,hlt⟩:=hI
 obtain ⟨E,hE⟩ : ∃ E,stepE (p :: r) x = E:=⟨_,rfl⟩
 unfold RSPost
 have hE2 : E = if contB 7 p.last x.k (emptyT x.t) = false then 19 else if opensK x.k = true /\ 6 <= r.length then 5 else 0:=by
  rw [<- hE,stepE_in hf hk.1 hk.2,hp]
 have hF:=fun w' => rightV x w' hs hs2
 have HF:=Lib.hid hf
 have HA:=Lib.hid ha
 have hkk:=formed_kind hf
 have hX:=EvAt.new w x
 have hbel:=(Below.refl w.heap.size w).alloc (Nat.le_refl _) (.cells #[.int .i64 x.k,.string x.t,.string x.v] 67)
 have hv':=hv
 obtain ⟨A,c,rfl,_,_,hr⟩:=hv'
 obtain ⟨bb,oo,rfl,hc⟩:=hr (by omega)
 have gk0:=(hc pl hpl).1
 rw [<- kindAt_get hpl,hkd,hp] at gk0
 obtain ⟨out,hout⟩ : ∃ out,ownL had pl = out:=⟨_,rfl⟩
 rw [hout] at hlast hlt
 have HE:=Lib.hid hE
 obtain ⟨L,hL⟩ : ∃ L,p.last = L:=⟨_,rfl⟩
 rw [hL] at hlast hE2
 obtain ⟨hk8,hk11⟩:=hk
 have hd6 : (ps.length : Int) + 1 = r.length:=by omega
 clear hf ha hr hE hkd hp hL
 unfold evV
 obtain ⟨k,t,u⟩:=x
 simp only at *
 have hli : (pl : Int) < had.length:=by omega
 rcases List.eq_nil_or_concat out with rfl | ⟨S,j,hSj⟩
 ·have HO:=Lib.hid hout
  have hL0 : L = 0:=by rw [<- hlast]; rfl
  subst hL0
  clear hout hlast hlt hc
  rcases hkk with rfl | rfl | rfl | rfl | rfl | rfl | rfl | rfl | rfl | rfl | rfl | rfl
  iterate 7
   ·have hEv : E = 19:=by rw [hE2,if_pos (by simp [contB])]
    subst hEv
    clear hE2 hd6
    have x0:=hX.c0
    have x1:=hX.c1
    have x2:=hX.c2
    simp only at x0 x1 x2
    go_enter Tryz.func63,Tryz.ntmps63
    go_wp2_with fail
    refine (hF _).mono ?_
    rintro e w1 ⟨rfl,hb1⟩
    rw [HF.out]
    replace hX:=hX.below hb1
    replace hbel:=hbel.trans (hb1.mono hbel.size)
    have z0:=hX.c0
    simp only at z0
    go_wp2_with fail
    refine (at_any _ _ had (hv.below hbel) hn).mono ?_
    rintro e w2 ⟨he,hb2⟩
    rw [atEnd_cons HA.out] at he
    subst he
    replace hX:=hX.below hb2
    replace hbel:=hbel.trans (hb2.mono hbel.size)
    have y0:=hX.c0
    simp only at y0
    clear x0 x1 x2 z0
    go_wp2_with fail
    refine (rown_any _ _ had pl (hv.below hbel) hn hpl).mono ?_
    rintro e w3 ⟨vo,rfl,hrow,hb3⟩
    rw [HO.out] at hrow
    replace hX:=hX.below hb3
    replace hbel:=hbel.trans (hb3.mono hbel.size)
    have u0:=hX.c0
    have u1:=hX.c1
    simp only at u0 u1
    have gk:=(hbel.cell (cell_lt gk0)).trans gk0
    obtain ⟨A1,c1,rfl⟩:=row_shapeL hrow (n:=0) rfl
    go_wp2_with fail
    go_ret
    exact ⟨by rw [HE.out]; rfl,hbel⟩
  ·exact absurd rfl hk8
  ·have hEv : E = 0:=by rw [hE2,if_neg (by simp [contB]),if_neg (fun h => absurd h.1 (by decide))]
   subst hEv
   clear hE2 hd6
   have x0:=hX.c0
   have x1:=hX.c1
   have x2:=hX.c2
   simp only at x0 x1 x2
   go_enter Tryz.func63,Tryz.ntmps63
   go_wp2_with fail
   refine (hF _).mono ?_
   rintro e w1 ⟨rfl,hb1⟩
   rw [HF.out]
   replace hX:=hX.below hb1
   replace hbel:=hbel.trans (hb1.mono hbel.size)
   have z0:=hX.c0
   simp only at z0
   go_wp2_with fail
   refine (at_any _ _ had (hv.below hbel) hn).mono ?_
   rintro e w2 ⟨he,hb2⟩
   rw [atEnd_cons HA.out] at he
   subst he
   replace hX:=hX.below hb2
   replace hbel:=hbel.trans (hb2.mono hbel.size)
   have y0:=hX.c0
   simp only at y0
   clear x0 x1 x2 z0
   go_wp2_with fail
   refine (rown_any _ _ had pl (hv.below hbel) hn hpl).mono ?_
   rintro e w3 ⟨vo,rfl,hrow,hb3⟩
   rw [HO.out] at hrow
   replace hX:=hX.below hb3
   replace hbel:=hbel.trans (hb3.mono hbel.size)
   have u0:=hX.c0
   have u1:=hX.c1
   simp only at u0 u1
   have gk:=(hbel.cell (cell_lt gk0)).trans gk0
   obtain ⟨A1,c1,rfl⟩:=row_shapeL hrow (n:=0) rfl
   go_wp2_with fail
   go_ret
   exact ⟨by rw [HE.out]; rfl,hbel⟩
  ·have hEv : E = 19:=by rw [hE2,if_pos (by simp [contB])]
   subst hEv
   clear hE2 hd6
   have x0:=hX.c0
   have x1:=hX.c1
   have x2:=hX.c2
   simp only at x0 x1 x2
   go_enter Tryz.func63,Tryz.ntmps63
   go_wp2_with fail
   refine (hF _).mono ?_
   rintro e w1 ⟨rfl,hb1⟩
   rw [HF.out]
   replace hX:=hX.below hb1
   replace hbel:=hbel.trans (hb1.mono hbel.size)
   have z0:=hX.c0
   simp only at z0
   go_wp2_with fail
   refine (at_any _ _ had (hv.below hbel) hn).mono ?_
   rintro e w2 ⟨he,hb2⟩
   rw [atEnd_cons HA.out] at he
   subst he
   replace hX:=hX.below hb2
   replace hbel:=hbel.trans (hb2.mono hbel.size)
   have y0:=hX.c0
   simp only at y0
   clear x0 x1 x2 z0
   go_wp2_with fail
   refine (rown_any _ _ had pl (hv.below hbel) hn hpl).mono ?_
   rintro e w3 ⟨vo,rfl,hrow,hb3⟩
   rw [HO.out] at hrow
   replace hX:=hX.below hb3
   replace hbel:=hbel.trans (hb3.mono hbel.size)
   have u0:=hX.c0
   have u1:=hX.c1
   simp only at u0 u1
   have gk:=(hbel.cell (cell_lt gk0)).trans gk0
   obtain ⟨A1,c1,rfl⟩:=row_shapeL hrow (n:=0) rfl
   go_wp2_with fail
   go_ret
   exact ⟨by rw [HE.out]; rfl,hbel⟩
  ·exact absurd rfl hk11
  ·have hEv : E = 19:=by rw [hE2,if_pos (by simp [contB])]
   subst hEv
   clear hE2 hd6
   have x0:=hX.c0
   have x1:=hX.c1
   have x2:=hX.c2
   simp only at x0 x1 x2
   go_enter Tryz.func63,Tryz.ntmps63
   go_wp2_with fail
   refine (hF _).mono ?_
   rintro e w1 ⟨rfl,hb1⟩
   rw [HF.out]
   replace hX:=hX.below hb1
   replace hbel:=hbel.trans (hb1.mono hbel.size)
   have z0:=hX.c0
   simp only at z0
   go_wp2_with fail
   refine (at_any _ _ had (hv.below hbel) hn).mono ?_
   rintro e w2 ⟨he,hb2⟩
   rw [atEnd_cons HA.out] at he
   subst he
   replace hX:=hX.below hb2
   replace hbel:=hbel.trans (hb2.mono hbel.size)
   have y0:=hX.c0
   simp only at y0
   clear x0 x1 x2 z0
   go_wp2_with fail
   refine (rown_any _ _ had pl (hv.below hbel) hn hpl).mono ?_
   rintro e w3 ⟨vo,rfl,hrow,hb3⟩
   rw [HO.out] at hrow
   replace hX:=hX.below hb3
   replace hbel:=hbel.trans (hb3.mono hbel.size)
   have u0:=hX.c0
   have u1:=hX.c1
   simp only at u0 u1
   have gk:=(hbel.cell (cell_lt gk0)).trans gk0
   obtain ⟨A1,c1,rfl⟩:=row_shapeL hrow (n:=0) rfl
   go_wp2_with fail
   go_ret
   exact ⟨by rw [HE.out]; rfl,hbel⟩
 ·rw [List.concat_eq_append] at hSj
  subst hSj
  have HO:=Lib.hid hout
  have hj : j < had.length:=hlt j (by simp)
  rw [lastK_snoc] at hlast
  have gj0:=(hc j hj).1
  rw [<- kindAt_get hj,hlast] at gj0
  have hSl : S.length + 1 <= 100000:=by
   have h1:=(ownT_lt had pl had.length (by omega) (Nat.le_refl _)).2
   rw [ownT_end had pl had.length (Nat.le_refl _)] at h1
   have h2 : (ownL had pl).length <= had.length:=h1
   rw [hout] at h2
   simp at h2
   omega
  have hji : (j : Int) < had.length:=by omega
  clear hout hlast hlt hc
  rcases hkk with rfl | rfl | rfl | rfl | rfl | rfl | rfl | rfl | rfl | rfl | rfl | rfl
  iterate 4
   ·by_cases hl8 : L = 8
    ·subst hl8
     have hEv : E = 0:=by rw [hE2,if_neg (by simp [contB,valueK]),if_neg (fun h => absurd h.1 (by decide))]
     subst hEv
     clear hE2 hd6
     have x0:=hX.c0
     have x1:=hX.c1
     have x2:=hX.c2
     simp only at x0 x1 x2
     go_enter Tryz.func63,Tryz.ntmps63
     go_wp2_with fail
     refine (hF _).mono ?_
     rintro e w1 ⟨rfl,hb1⟩
     rw [HF.out]
     replace hX:=hX.below hb1
     replace hbel:=hbel.trans (hb1.mono hbel.size)
     have z0:=hX.c0
     simp only at z0
     go_wp2_with fail
     refine (at_any _ _ had (hv.below hbel) hn).mono ?_
     rintro e w2 ⟨he,hb2⟩
     rw [atEnd_cons HA.out] at he
     subst he
     replace hX:=hX.below hb2
     replace hbel:=hbel.trans (hb2.mono hbel.size)
     have y0:=hX.c0
     simp only at y0
     clear x0 x1 x2 z0
     go_wp2_with fail
     refine (rown_any _ _ had pl (hv.below hbel) hn hpl).mono ?_
     rintro e w3 ⟨vo,rfl,hrow,hb3⟩
     rw [HO.out] at hrow
     replace hX:=hX.below hb3
     replace hbel:=hbel.trans (hb3.mono hbel.size)
     have u0:=hX.c0
     have u1:=hX.c1
     simp only at u0 u1
     have gk:=(hbel.cell (cell_lt gk0)).trans gk0
     obtain ⟨A1,c1,rfl⟩:=row_shapeL hrow (n:=S.length + 1) (by simp)
     obtain ⟨r1,rfl⟩:=row_blockL hrow (by simp)
     have hcl : w3.cell? ⟨r1,S.length,none⟩ = some (.int .i64 j):=by
      rw [rowN_cell (rowL_of hrow (n:=S.length + 1) (by simp)) (by omega),nmap_snoc,List.getElem?_append_right (by simp)]
      simp [nV]
     have gj:=(hbel.cell (cell_lt gj0)).trans gj0
     go_wp2_with fail
     go_ret
     exact ⟨by rw [HE.out]; rfl,hbel⟩
    ·have e8:=ne_beq hl8
     have hEv : E = 19:=by rw [hE2,if_pos (by simp [contB,hl8])]
     subst hEv
     clear hE2 hd6
     have x0:=hX.c0
     have x1:=hX.c1
     have x2:=hX.c2
     simp only at x0 x1 x2
     go_enter Tryz.func63,Tryz.ntmps63
     go_wp2_with fail
     refine (hF _).mono ?_
     rintro e w1 ⟨rfl,hb1⟩
     rw [HF.out]
     replace hX:=hX.below hb1
     replace hbel:=hbel.trans (hb1.mono hbel.size)
     have z0:=hX.c0
     simp only at z0
     go_wp2_with fail
     refine (at_any _ _ had (hv.below hbel) hn).mono ?_
     rintro e w2 ⟨he,hb2⟩
     rw [atEnd_cons HA.out] at he
     subst he
     replace hX:=hX.below hb2
     replace hbel:=hbel.trans (hb2.mono hbel.size)
     have y0:=hX.c0
     simp only at y0
     clear x0 x1 x2 z0
     go_wp2_with fail
     refine (rown_any _ _ had pl (hv.below hbel) hn hpl).mono ?_
     rintro e w3 ⟨vo,rfl,hrow,hb3⟩
     rw [HO.out] at hrow
     replace hX:=hX.below hb3
     replace hbel:=hbel.trans (hb3.mono hbel.size)
     have u0:=hX.c0
     have u1:=hX.c1
     simp only at u0 u1
     have gk:=(hbel.cell (cell_lt gk0)).trans gk0
     obtain ⟨A1,c1,rfl⟩:=row_shapeL hrow (n:=S.length + 1) (by simp)
     obtain ⟨r1,rfl⟩:=row_blockL hrow (by simp)
     have hcl : w3.cell? ⟨r1,S.length,none⟩ = some (.int .i64 j):=by
      rw [rowN_cell (rowL_of hrow (n:=S.length + 1) (by simp)) (by omega),nmap_snoc,List.getElem?_append_right (by simp)]
      simp [nV]
     have gj:=(hbel.cell (cell_lt gj0)).trans gj0
     go_wp2_with fail
     go_ret
     exact ⟨by rw [HE.out]; rfl,hbel⟩
  ·by_cases hl8 : L = 8
   ·subst hl8
    by_cases h6 : 6 <= r.length
    ·have hEv : E = 5:=by rw [hE2,if_neg (by simp [contB,valueK]),if_pos ⟨by decide,h6⟩]
     subst hEv
     have h6i : (6 : Int) <= (ps.length : Int) + 1:=by omega
     clear hE2 hd6 h6
     have x0:=hX.c0
     have x1:=hX.c1
     have x2:=hX.c2
     simp only at x0 x1 x2
     go_enter Tryz.func63,Tryz.ntmps63
     go_wp2_with fail
     refine (hF _).mono ?_
     rintro e w1 ⟨rfl,hb1⟩
     rw [HF.out]
     replace hX:=hX.below hb1
     replace hbel:=hbel.trans (hb1.mono hbel.size)
     have z0:=hX.c0
     simp only at z0
     go_wp2_with fail
     refine (at_any _ _ had (hv.below hbel) hn).mono ?_
     rintro e w2 ⟨he,hb2⟩
     rw [atEnd_cons HA.out] at he
     subst he
     replace hX:=hX.below hb2
     replace hbel:=hbel.trans (hb2.mono hbel.size)
     have y0:=hX.c0
     simp only at y0
     clear x0 x1 x2 z0
     go_wp2_with fail
     refine (rown_any _ _ had pl (hv.below hbel) hn hpl).mono ?_
     rintro e w3 ⟨vo,rfl,hrow,hb3⟩
     rw [HO.out] at hrow
     replace hX:=hX.below hb3
     replace hbel:=hbel.trans (hb3.mono hbel.size)
     have u0:=hX.c0
     have u1:=hX.c1
     simp only at u0 u1
     have gk:=(hbel.cell (cell_lt gk0)).trans gk0
     obtain ⟨A1,c1,rfl⟩:=row_shapeL hrow (n:=S.length + 1) (by simp)
     obtain ⟨r1,rfl⟩:=row_blockL hrow (by simp)
     have hcl : w3.cell? ⟨r1,S.length,none⟩ = some (.int .i64 j):=by
      rw [rowN_cell (rowL_of hrow (n:=S.length + 1) (by simp)) (by omega),nmap_snoc,List.getElem?_append_right (by simp)]
      simp [nV]
     have gj:=(hbel.cell (cell_lt gj0)).trans gj0
     go_wp2_with fail
     go_ret
     exact ⟨by rw [HE.out]; rfl,hbel⟩
    ·have hEv : E = 0:=by rw [hE2,if_neg (by simp [contB,valueK]),if_neg (fun h => h6 h.2)]
     subst hEv
     have h6i : ¬ (6 : Int) <= (ps.length : Int) + 1:=by omega
     clear hE2 hd6 h6
     have x0:=hX.c0
     have x1:=hX.c1
     have x2:=hX.c2
     simp only at x0 x1 x2
     go_enter Tryz.func63,Tryz.ntmps63
     go_wp2_with fail
     refine (hF _).mono ?_
     rintro e w1 ⟨rfl,hb1⟩
     rw [HF.out]
     replace hX:=hX.below hb1
     replace hbel:=hbel.trans (hb1.mono hbel.size)
     have z0:=hX.c0
     simp only at z0
     go_wp2_with fail
     refine (at_any _ _ had (hv.below hbel) hn).mono ?_
     rintro e w2 ⟨he,hb2⟩
     rw [atEnd_cons HA.out] at he
     subst he
     replace hX:=hX.below hb2
     replace hbel:=hbel.trans (hb2.mono hbel.size)
     have y0:=hX.c0
     simp only at y0
     clear x0 x1 x2 z0
     go_wp2_with fail
     refine (rown_any _ _ had pl (hv.below hbel) hn hpl).mono ?_
     rintro e w3 ⟨vo,rfl,hrow,hb3⟩
     rw [HO.out] at hrow
     replace hX:=hX.below hb3
     replace hbel:=hbel.trans (hb3.mono hbel.size)
     have u0:=hX.c0
     have u1:=hX.c1
     simp only at u0 u1
     have gk:=(hbel.cell (cell_lt gk0)).trans gk0
     obtain ⟨A1,c1,rfl⟩:=row_shapeL hrow (n:=S.length + 1) (by simp)
     obtain ⟨r1,rfl⟩:=row_blockL hrow (by simp)
     have hcl : w3.cell? ⟨r1,S.length,none⟩ = some (.int .i64 j):=by
      rw [rowN_cell (rowL_of hrow (n:=S.length + 1) (by simp)) (by omega),nmap_snoc,List.getElem?_append_right (by simp)]
      simp [nV]
     have gj:=(hbel.cell (cell_lt gj0)).trans gj0
     go_wp2_with fail
     go_ret
     exact ⟨by rw [HE.out]; rfl,hbel⟩
   ·have e8:=ne_beq hl8
    have hEv : E = 19:=by rw [hE2,if_pos (by simp [contB,hl8])]
    subst hEv
    clear hE2 hd6
    have x0:=hX.c0
    have x1:=hX.c1
    have x2:=hX.c2
    simp only at x0 x1 x2
    go_enter Tryz.func63,Tryz.ntmps63
    go_wp2_with fail
    refine (hF _).mono ?_
    rintro e w1 ⟨rfl,hb1⟩
    rw [HF.out]
    replace hX:=hX.below hb1
    replace hbel:=hbel.trans (hb1.mono hbel.size)
    have z0:=hX.c0
    simp only at z0
    go_wp2_with fail
    refine (at_any _ _ had (hv.below hbel) hn).mono ?_
    rintro e w2 ⟨he,hb2⟩
    rw [atEnd_cons HA.out] at he
    subst he
    replace hX:=hX.below hb2
    replace hbel:=hbel.trans (hb2.mono hbel.size)
    have y0:=hX.c0
    simp only at y0
    clear x0 x1 x2 z0
    go_wp2_with fail
    refine (rown_any _ _ had pl (hv.below hbel) hn hpl).mono ?_
    rintro e w3 ⟨vo,rfl,hrow,hb3⟩
    rw [HO.out] at hrow
    replace hX:=hX.below hb3
    replace hbel:=hbel.trans (hb3.mono hbel.size)
    have u0:=hX.c0
    have u1:=hX.c1
    simp only at u0 u1
    have gk:=(hbel.cell (cell_lt gk0)).trans gk0
    obtain ⟨A1,c1,rfl⟩:=row_shapeL hrow (n:=S.length + 1) (by simp)
    obtain ⟨r1,rfl⟩:=row_blockL hrow (by simp)
    have hcl : w3.cell? ⟨r1,S.length,none⟩ = some (.int .i64 j):=by
     rw [rowN_cell (rowL_of hrow (n:=S.length + 1) (by simp)) (by omega),nmap_snoc,List.getElem?_append_right (by simp)]
     simp [nV]
    have gj:=(hbel.cell (cell_lt gj0)).trans gj0
    go_wp2_with fail
    go_ret
    exact ⟨by rw [HE.out]; rfl,hbel⟩
  ·by_cases hl8 : L = 8
   ·subst hl8
    have hEv : E = 19:=by rw [hE2,if_pos (by simp [contB,valueK])]
    subst hEv
    clear hE2 hd6
    have x0:=hX.c0
    have x1:=hX.c1
    have x2:=hX.c2
    simp only at x0 x1 x2
    go_enter Tryz.func63,Tryz.ntmps63
    go_wp2_with fail
    refine (hF _).mono ?_
    rintro e w1 ⟨rfl,hb1⟩
    rw [HF.out]
    replace hX:=hX.below hb1
    replace hbel:=hbel.trans (hb1.mono hbel.size)
    have z0:=hX.c0
    simp only at z0
    go_wp2_with fail
    refine (at_any _ _ had (hv.below hbel) hn).mono ?_
    rintro e w2 ⟨he,hb2⟩
    rw [atEnd_cons HA.out] at he
    subst he
    replace hX:=hX.below hb2
    replace hbel:=hbel.trans (hb2.mono hbel.size)
    have y0:=hX.c0
    simp only at y0
    clear x0 x1 x2 z0
    go_wp2_with fail
    refine (rown_any _ _ had pl (hv.below hbel) hn hpl).mono ?_
    rintro e w3 ⟨vo,rfl,hrow,hb3⟩
    rw [HO.out] at hrow
    replace hX:=hX.below hb3
    replace hbel:=hbel.trans (hb3.mono hbel.size)
    have u0:=hX.c0
    have u1:=hX.c1
    simp only at u0 u1
    have gk:=(hbel.cell (cell_lt gk0)).trans gk0
    obtain ⟨A1,c1,rfl⟩:=row_shapeL hrow (n:=S.length + 1) (by simp)
    obtain ⟨r1,rfl⟩:=row_blockL hrow (by simp)
    have hcl : w3.cell? ⟨r1,S.length,none⟩ = some (.int .i64 j):=by
     rw [rowN_cell (rowL_of hrow (n:=S.length + 1) (by simp)) (by omega),nmap_snoc,List.getElem?_append_right (by simp)]
     simp [nV]
    have gj:=(hbel.cell (cell_lt gj0)).trans gj0
    go_wp2_with fail
    go_ret
    exact ⟨by rw [HE.out]; rfl,hbel⟩
   ·have e8:=ne_beq hl8
    have hEv : E = 19:=by rw [hE2,if_pos (by simp [contB,hl8])]
    subst hEv
    clear hE2 hd6
    have x0:=hX.c0
    have x1:=hX.c1
    have x2:=hX.c2
    simp only at x0 x1 x2
    go_enter Tryz.func63,Tryz.ntmps63
    go_wp2_with fail
    refine (hF _).mono ?_
    rintro e w1 ⟨rfl,hb1⟩
    rw [HF.out]
    replace hX:=hX.below hb1
    replace hbel:=hbel.trans (hb1.mono hbel.size)
    have z0:=hX.c0
    simp only at z0
    go_wp2_with fail
    refine (at_any _ _ had (hv.below hbel) hn).mono ?_
    rintro e w2 ⟨he,hb2⟩
    rw [atEnd_cons HA.out] at he
    subst he
    replace hX:=hX.below hb2
    replace hbel:=hbel.trans (hb2.mono hbel.size)
    have y0:=hX.c0
    simp only at y0
    clear x0 x1 x2 z0
    go_wp2_with fail
    refine (rown_any _ _ had pl (hv.below hbel) hn hpl).mono ?_
    rintro e w3 ⟨vo,rfl,hrow,hb3⟩
    rw [HO.out] at hrow
    replace hX:=hX.below hb3
    replace hbel:=hbel.trans (hb3.mono hbel.size)
    have u0:=hX.c0
    have u1:=hX.c1
    simp only at u0 u1
    have gk:=(hbel.cell (cell_lt gk0)).trans gk0
    obtain ⟨A1,c1,rfl⟩:=row_shapeL hrow (n:=S.length + 1) (by simp)
    obtain ⟨r1,rfl⟩:=row_blockL hrow (by simp)
    have hcl : w3.cell? ⟨r1,S.length,none⟩ = some (.int .i64 j):=by
     rw [rowN_cell (rowL_of hrow (n:=S.length + 1) (by simp)) (by omega),nmap_snoc,List.getElem?_append_right (by simp)]
     simp [nV]
    have gj:=(hbel.cell (cell_lt gj0)).trans gj0
    go_wp2_with fail
    go_ret
    exact ⟨by rw [HE.out]; rfl,hbel⟩
  ·by_cases hl8 : L = 8
   ·subst hl8
    by_cases h6 : 6 <= r.length
    ·have hEv : E = 5:=by rw [hE2,if_neg (by simp [contB,valueK]),if_pos ⟨by decide,h6⟩]
     subst hEv
     have h6i : (6 : Int) <= (ps.length : Int) + 1:=by omega
     clear hE2 hd6 h6
     have x0:=hX.c0
     have x1:=hX.c1
     have x2:=hX.c2
     simp only at x0 x1 x2
     go_enter Tryz.func63,Tryz.ntmps63
     go_wp2_with fail
     refine (hF _).mono ?_
     rintro e w1 ⟨rfl,hb1⟩
     rw [HF.out]
     replace hX:=hX.below hb1
     replace hbel:=hbel.trans (hb1.mono hbel.size)
     have z0:=hX.c0
     simp only at z0
     go_wp2_with fail
     refine (at_any _ _ had (hv.below hbel) hn).mono ?_
     rintro e w2 ⟨he,hb2⟩
     rw [atEnd_cons HA.out] at he
     subst he
     replace hX:=hX.below hb2
     replace hbel:=hbel.trans (hb2.mono hbel.size)
     have y0:=hX.c0
     simp only at y0
     clear x0 x1 x2 z0
     go_wp2_with fail
     refine (rown_any _ _ had pl (hv.below hbel) hn hpl).mono ?_
     rintro e w3 ⟨vo,rfl,hrow,hb3⟩
     rw [HO.out] at hrow
     replace hX:=hX.below hb3
     replace hbel:=hbel.trans (hb3.mono hbel.size)
     have u0:=hX.c0
     have u1:=hX.c1
     simp only at u0 u1
     have gk:=(hbel.cell (cell_lt gk0)).trans gk0
     obtain ⟨A1,c1,rfl⟩:=row_shapeL hrow (n:=S.length + 1) (by simp)
     obtain ⟨r1,rfl⟩:=row_blockL hrow (by simp)
     have hcl : w3.cell? ⟨r1,S.length,none⟩ = some (.int .i64 j):=by
      rw [rowN_cell (rowL_of hrow (n:=S.length + 1) (by simp)) (by omega),nmap_snoc,List.getElem?_append_right (by simp)]
      simp [nV]
     have gj:=(hbel.cell (cell_lt gj0)).trans gj0
     go_wp2_with fail
     go_ret
     exact ⟨by rw [HE.out]; rfl,hbel⟩
    ·have hEv : E = 0:=by rw [hE2,if_neg (by simp [contB,valueK]),if_neg (fun h => h6 h.2)]
     subst hEv
     have h6i : ¬ (6 : Int) <= (ps.length : Int) + 1:=by omega
     clear hE2 hd6 h6
     have x0:=hX.c0
     have x1:=hX.c1
     have x2:=hX.c2
     simp only at x0 x1 x2
     go_enter Tryz.func63,Tryz.ntmps63
     go_wp2_with fail
     refine (hF _).mono ?_
     rintro e w1 ⟨rfl,hb1⟩
     rw [HF.out]
     replace hX:=hX.below hb1
     replace hbel:=hbel.trans (hb1.mono hbel.size)
     have z0:=hX.c0
     simp only at z0
     go_wp2_with fail
     refine (at_any _ _ had (hv.below hbel) hn).mono ?_
     rintro e w2 ⟨he,hb2⟩
     rw [atEnd_cons HA.out] at he
     subst he
     replace hX:=hX.below hb2
     replace hbel:=hbel.trans (hb2.mono hbel.size)
     have y0:=hX.c0
     simp only at y0
     clear x0 x1 x2 z0
     go_wp2_with fail
     refine (rown_any _ _ had pl (hv.below hbel) hn hpl).mono ?_
     rintro e w3 ⟨vo,rfl,hrow,hb3⟩
     rw [HO.out] at hrow
     replace hX:=hX.below hb3
     replace hbel:=hbel.trans (hb3.mono hbel.size)
     have u0:=hX.c0
     have u1:=hX.c1
     simp only at u0 u1
     have gk:=(hbel.cell (cell_lt gk0)).trans gk0
     obtain ⟨A1,c1,rfl⟩:=row_shapeL hrow (n:=S.length + 1) (by simp)
     obtain ⟨r1,rfl⟩:=row_blockL hrow (by simp)
     have hcl : w3.cell? ⟨r1,S.length,none⟩ = some (.int .i64 j):=by
      rw [rowN_cell (rowL_of hrow (n:=S.length + 1) (by simp)) (by omega),nmap_snoc,List.getElem?_append_right (by simp)]
      simp [nV]
     have gj:=(hbel.cell (cell_lt gj0)).trans gj0
     go_wp2_with fail
     go_ret
     exact ⟨by rw [HE.out]; rfl,hbel⟩
   ·have e8:=ne_beq hl8
    have hEv : E = 19:=by rw [hE2,if_pos (by simp [contB,hl8])]
    subst hEv
    clear hE2 hd6
    have x0:=hX.c0
    have x1:=hX.c1
    have x2:=hX.c2
    simp only at x0 x1 x2
    go_enter Tryz.func63,Tryz.ntmps63
    go_wp2_with fail
    refine (hF _).mono ?_
    rintro e w1 ⟨rfl,hb1⟩
    rw [HF.out]
    replace hX:=hX.below hb1
    replace hbel:=hbel.trans (hb1.mono hbel.size)
    have z0:=hX.c0
    simp only at z0
    go_wp2_with fail
    refine (at_any _ _ had (hv.below hbel) hn).mono ?_
    rintro e w2 ⟨he,hb2⟩
    rw [atEnd_cons HA.out] at he
    subst he
    replace hX:=hX.below hb2
    replace hbel:=hbel.trans (hb2.mono hbel.size)
    have y0:=hX.c0
    simp only at y0
    clear x0 x1 x2 z0
    go_wp2_with fail
    refine (rown_any _ _ had pl (hv.below hbel) hn hpl).mono ?_
    rintro e w3 ⟨vo,rfl,hrow,hb3⟩
    rw [HO.out] at hrow
    replace hX:=hX.below hb3
    replace hbel:=hbel.trans (hb3.mono hbel.size)
    have u0:=hX.c0
    have u1:=hX.c1
    simp only at u0 u1
    have gk:=(hbel.cell (cell_lt gk0)).trans gk0
    obtain ⟨A1,c1,rfl⟩:=row_shapeL hrow (n:=S.length + 1) (by simp)
    obtain ⟨r1,rfl⟩:=row_blockL hrow (by simp)
    have hcl : w3.cell? ⟨r1,S.length,none⟩ = some (.int .i64 j):=by
     rw [rowN_cell (rowL_of hrow (n:=S.length + 1) (by simp)) (by omega),nmap_snoc,List.getElem?_append_right (by simp)]
     simp [nV]
    have gj:=(hbel.cell (cell_lt gj0)).trans gj0
    go_wp2_with fail
    go_ret
    exact ⟨by rw [HE.out]; rfl,hbel⟩
  ·exact absurd rfl hk8
  ·by_cases hl8 : L = 8
   ·subst hl8
    have hEv : E = 19:=by rw [hE2,if_pos (by simp [contB,valueK])]
    subst hEv
    clear hE2 hd6
    have x0:=hX.c0
    have x1:=hX.c1
    have x2:=hX.c2
    simp only at x0 x1 x2
    go_enter Tryz.func63,Tryz.ntmps63
    go_wp2_with fail
    refine (hF _).mono ?_
    rintro e w1 ⟨rfl,hb1⟩
    rw [HF.out]
    replace hX:=hX.below hb1
    replace hbel:=hbel.trans (hb1.mono hbel.size)
    have z0:=hX.c0
    simp only at z0
    go_wp2_with fail
    refine (at_any _ _ had (hv.below hbel) hn).mono ?_
    rintro e w2 ⟨he,hb2⟩
    rw [atEnd_cons HA.out] at he
    subst he
    replace hX:=hX.below hb2
    replace hbel:=hbel.trans (hb2.mono hbel.size)
    have y0:=hX.c0
    simp only at y0
    clear x0 x1 x2 z0
    go_wp2_with fail
    refine (rown_any _ _ had pl (hv.below hbel) hn hpl).mono ?_
    rintro e w3 ⟨vo,rfl,hrow,hb3⟩
    rw [HO.out] at hrow
    replace hX:=hX.below hb3
    replace hbel:=hbel.trans (hb3.mono hbel.size)
    have u0:=hX.c0
    have u1:=hX.c1
    simp only at u0 u1
    have gk:=(hbel.cell (cell_lt gk0)).trans gk0
    obtain ⟨A1,c1,rfl⟩:=row_shapeL hrow (n:=S.length + 1) (by simp)
    obtain ⟨r1,rfl⟩:=row_blockL hrow (by simp)
    have hcl : w3.cell? ⟨r1,S.length,none⟩ = some (.int .i64 j):=by
     rw [rowN_cell (rowL_of hrow (n:=S.length + 1) (by simp)) (by omega),nmap_snoc,List.getElem?_append_right (by simp)]
     simp [nV]
    have gj:=(hbel.cell (cell_lt gj0)).trans gj0
    go_wp2_with fail
    go_ret
    exact ⟨by rw [HE.out]; rfl,hbel⟩
   ·have e8:=ne_beq hl8
    have hEv : E = 0:=by rw [hE2,if_neg (by simp [contB,hl8]),if_neg (fun h => absurd h.1 (by decide))]
    subst hEv
    clear hE2 hd6
    have x0:=hX.c0
    have x1:=hX.c1
    have x2:=hX.c2
    simp only at x0 x1 x2
    go_enter Tryz.func63,Tryz.ntmps63
    go_wp2_with fail
    refine (hF _).mono ?_
    rintro e w1 ⟨rfl,hb1⟩
    rw [HF.out]
    replace hX:=hX.below hb1
    replace hbel:=hbel.trans (hb1.mono hbel.size)
    have z0:=hX.c0
    simp only at z0
    go_wp2_with fail
    refine (at_any _ _ had (hv.below hbel) hn).mono ?_
    rintro e w2 ⟨he,hb2⟩
    rw [atEnd_cons HA.out] at he
    subst he
    replace hX:=hX.below hb2
    replace hbel:=hbel.trans (hb2.mono hbel.size)
    have y0:=hX.c0
    simp only at y0
    clear x0 x1 x2 z0
    go_wp2_with fail
    refine (rown_any _ _ had pl (hv.below hbel) hn hpl).mono ?_
    rintro e w3 ⟨vo,rfl,hrow,hb3⟩
    rw [HO.out] at hrow
    replace hX:=hX.below hb3
    replace hbel:=hbel.trans (hb3.mono hbel.size)
    have u0:=hX.c0
    have u1:=hX.c1
    simp only at u0 u1
    have gk:=(hbel.cell (cell_lt gk0)).trans gk0
    obtain ⟨A1,c1,rfl⟩:=row_shapeL hrow (n:=S.length + 1) (by simp)
    obtain ⟨r1,rfl⟩:=row_blockL hrow (by simp)
    have hcl : w3.cell? ⟨r1,S.length,none⟩ = some (.int .i64 j):=by
     rw [rowN_cell (rowL_of hrow (n:=S.length + 1) (by simp)) (by omega),nmap_snoc,List.getElem?_append_right (by simp)]
     simp [nV]
    have gj:=(hbel.cell (cell_lt gj0)).trans gj0
    go_wp2_with fail
    go_ret
    exact ⟨by rw [HE.out]; rfl,hbel⟩
  ·by_cases hl8 : L = 8
   ·subst hl8
    by_cases h6 : 6 <= r.length
    ·have hEv : E = 5:=by rw [hE2,if_neg (by simp [contB,valueK]),if_pos ⟨by decide,h6⟩]
     subst hEv
     have h6i : (6 : Int) <= (ps.length : Int) + 1:=by omega
     clear hE2 hd6 h6
     have x0:=hX.c0
     have x1:=hX.c1
     have x2:=hX.c2
     simp only at x0 x1 x2
     go_enter Tryz.func63,Tryz.ntmps63
     go_wp2_with fail
     refine (hF _).mono ?_
     rintro e w1 ⟨rfl,hb1⟩
     rw [HF.out]
     replace hX:=hX.below hb1
     replace hbel:=hbel.trans (hb1.mono hbel.size)
     have z0:=hX.c0
     simp only at z0
     go_wp2_with fail
     refine (at_any _ _ had (hv.below hbel) hn).mono ?_
     rintro e w2 ⟨he,hb2⟩
     rw [atEnd_cons HA.out] at he
     subst he
     replace hX:=hX.below hb2
     replace hbel:=hbel.trans (hb2.mono hbel.size)
     have y0:=hX.c0
     simp only at y0
     clear x0 x1 x2 z0
     go_wp2_with fail
     refine (rown_any _ _ had pl (hv.below hbel) hn hpl).mono ?_
     rintro e w3 ⟨vo,rfl,hrow,hb3⟩
     rw [HO.out] at hrow
     replace hX:=hX.below hb3
     replace hbel:=hbel.trans (hb3.mono hbel.size)
     have u0:=hX.c0
     have u1:=hX.c1
     simp only at u0 u1
     have gk:=(hbel.cell (cell_lt gk0)).trans gk0
     obtain ⟨A1,c1,rfl⟩:=row_shapeL hrow (n:=S.length + 1) (by simp)
     obtain ⟨r1,rfl⟩:=row_blockL hrow (by simp)
     have hcl : w3.cell? ⟨r1,S.length,none⟩ = some (.int .i64 j):=by
      rw [rowN_cell (rowL_of hrow (n:=S.length + 1) (by simp)) (by omega),nmap_snoc,List.getElem?_append_right (by simp)]
      simp [nV]
     have gj:=(hbel.cell (cell_lt gj0)).trans gj0
     go_wp2_with fail
     go_ret
     exact ⟨by rw [HE.out]; rfl,hbel⟩
    ·have hEv : E = 0:=by rw [hE2,if_neg (by simp [contB,valueK]),if_neg (fun h => h6 h.2)]
     subst hEv
     have h6i : ¬ (6 : Int) <= (ps.length : Int) + 1:=by omega
     clear hE2 hd6 h6
     have x0:=hX.c0
     have x1:=hX.c1
     have x2:=hX.c2
     simp only at x0 x1 x2
     go_enter Tryz.func63,Tryz.ntmps63
     go_wp2_with fail
     refine (hF _).mono ?_
     rintro e w1 ⟨rfl,hb1⟩
     rw [HF.out]
     replace hX:=hX.below hb1
     replace hbel:=hbel.trans (hb1.mono hbel.size)
     have z0:=hX.c0
     simp only at z0
     go_wp2_with fail
     refine (at_any _ _ had (hv.below hbel) hn).mono ?_
     rintro e w2 ⟨he,hb2⟩
     rw [atEnd_cons HA.out] at he
     subst he
     replace hX:=hX.below hb2
     replace hbel:=hbel.trans (hb2.mono hbel.size)
     have y0:=hX.c0
     simp only at y0
     clear x0 x1 x2 z0
     go_wp2_with fail
     refine (rown_any _ _ had pl (hv.below hbel) hn hpl).mono ?_
     rintro e w3 ⟨vo,rfl,hrow,hb3⟩
     rw [HO.out] at hrow
     replace hX:=hX.below hb3
     replace hbel:=hbel.trans (hb3.mono hbel.size)
     have u0:=hX.c0
     have u1:=hX.c1
     simp only at u0 u1
     have gk:=(hbel.cell (cell_lt gk0)).trans gk0
     obtain ⟨A1,c1,rfl⟩:=row_shapeL hrow (n:=S.length + 1) (by simp)
     obtain ⟨r1,rfl⟩:=row_blockL hrow (by simp)
     have hcl : w3.cell? ⟨r1,S.length,none⟩ = some (.int .i64 j):=by
      rw [rowN_cell (rowL_of hrow (n:=S.length + 1) (by simp)) (by omega),nmap_snoc,List.getElem?_append_right (by simp)]
      simp [nV]
     have gj:=(hbel.cell (cell_lt gj0)).trans gj0
     go_wp2_with fail
     go_ret
     exact ⟨by rw [HE.out]; rfl,hbel⟩
   ·have e8:=ne_beq hl8
    have hEv : E = 19:=by rw [hE2,if_pos (by simp [contB,hl8])]
    subst hEv
    clear hE2 hd6
    have x0:=hX.c0
    have x1:=hX.c1
    have x2:=hX.c2
    simp only at x0 x1 x2
    go_enter Tryz.func63,Tryz.ntmps63
    go_wp2_with fail
    refine (hF _).mono ?_
    rintro e w1 ⟨rfl,hb1⟩
    rw [HF.out]
    replace hX:=hX.below hb1
    replace hbel:=hbel.trans (hb1.mono hbel.size)
    have z0:=hX.c0
    simp only at z0
    go_wp2_with fail
    refine (at_any _ _ had (hv.below hbel) hn).mono ?_
    rintro e w2 ⟨he,hb2⟩
    rw [atEnd_cons HA.out] at he
    subst he
    replace hX:=hX.below hb2
    replace hbel:=hbel.trans (hb2.mono hbel.size)
    have y0:=hX.c0
    simp only at y0
    clear x0 x1 x2 z0
    go_wp2_with fail
    refine (rown_any _ _ had pl (hv.below hbel) hn hpl).mono ?_
    rintro e w3 ⟨vo,rfl,hrow,hb3⟩
    rw [HO.out] at hrow
    replace hX:=hX.below hb3
    replace hbel:=hbel.trans (hb3.mono hbel.size)
    have u0:=hX.c0
    have u1:=hX.c1
    simp only at u0 u1
    have gk:=(hbel.cell (cell_lt gk0)).trans gk0
    obtain ⟨A1,c1,rfl⟩:=row_shapeL hrow (n:=S.length + 1) (by simp)
    obtain ⟨r1,rfl⟩:=row_blockL hrow (by simp)
    have hcl : w3.cell? ⟨r1,S.length,none⟩ = some (.int .i64 j):=by
     rw [rowN_cell (rowL_of hrow (n:=S.length + 1) (by simp)) (by omega),nmap_snoc,List.getElem?_append_right (by simp)]
     simp [nV]
    have gj:=(hbel.cell (cell_lt gj0)).trans gj0
    go_wp2_with fail
    go_ret
    exact ⟨by rw [HE.out]; rfl,hbel⟩
  ·exact absurd rfl hk11
  ·by_cases hl8 : L = 8
   ·subst hl8
    have hEv : E = 19:=by rw [hE2,if_pos (by simp [contB,valueK])]
    subst hEv
    clear hE2 hd6
    have x0:=hX.c0
    have x1:=hX.c1
    have x2:=hX.c2
    simp only at x0 x1 x2
    go_enter Tryz.func63,Tryz.ntmps63
    go_wp2_with fail
    refine (hF _).mono ?_
    rintro e w1 ⟨rfl,hb1⟩
    rw [HF.out]
    replace hX:=hX.below hb1
    replace hbel:=hbel.trans (hb1.mono hbel.size)
    have z0:=hX.c0
    simp only at z0
    go_wp2_with fail
    refine (at_any _ _ had (hv.below hbel) hn).mono ?_
    rintro e w2 ⟨he,hb2⟩
    rw [atEnd_cons HA.out] at he
    subst he
    replace hX:=hX.below hb2
    replace hbel:=hbel.trans (hb2.mono hbel.size)
    have y0:=hX.c0
    simp only at y0
    clear x0 x1 x2 z0
    go_wp2_with fail
    refine (rown_any _ _ had pl (hv.below hbel) hn hpl).mono ?_
    rintro e w3 ⟨vo,rfl,hrow,hb3⟩
    rw [HO.out] at hrow
    replace hX:=hX.below hb3
    replace hbel:=hbel.trans (hb3.mono hbel.size)
    have u0:=hX.c0
    have u1:=hX.c1
    simp only at u0 u1
    have gk:=(hbel.cell (cell_lt gk0)).trans gk0
    obtain ⟨A1,c1,rfl⟩:=row_shapeL hrow (n:=S.length + 1) (by simp)
    obtain ⟨r1,rfl⟩:=row_blockL hrow (by simp)
    have hcl : w3.cell? ⟨r1,S.length,none⟩ = some (.int .i64 j):=by
     rw [rowN_cell (rowL_of hrow (n:=S.length + 1) (by simp)) (by omega),nmap_snoc,List.getElem?_append_right (by simp)]
     simp [nV]
    have gj:=(hbel.cell (cell_lt gj0)).trans gj0
    go_wp2_with fail
    go_ret
    exact ⟨by rw [HE.out]; rfl,hbel⟩
   ·have e8:=ne_beq hl8
    have hEv : E = 19:=by rw [hE2,if_pos (by simp [contB,hl8])]
    subst hEv
    clear hE2 hd6
    have x0:=hX.c0
    have x1:=hX.c1
    have x2:=hX.c2
    simp only at x0 x1 x2
    go_enter Tryz.func63,Tryz.ntmps63
    go_wp2_with fail
    refine (hF _).mono ?_
    rintro e w1 ⟨rfl,hb1⟩
    rw [HF.out]
    replace hX:=hX.below hb1
    replace hbel:=hbel.trans (hb1.mono hbel.size)
    have z0:=hX.c0
    simp only at z0
    go_wp2_with fail
    refine (at_any _ _ had (hv.below hbel) hn).mono ?_
    rintro e w2 ⟨he,hb2⟩
    rw [atEnd_cons HA.out] at he
    subst he
    replace hX:=hX.below hb2
    replace hbel:=hbel.trans (hb2.mono hbel.size)
    have y0:=hX.c0
    simp only at y0
    clear x0 x1 x2 z0
    go_wp2_with fail
    refine (rown_any _ _ had pl (hv.below hbel) hn hpl).mono ?_
    rintro e w3 ⟨vo,rfl,hrow,hb3⟩
    rw [HO.out] at hrow
    replace hX:=hX.below hb3
    replace hbel:=hbel.trans (hb3.mono hbel.size)
    have u0:=hX.c0
    have u1:=hX.c1
    simp only at u0 u1
    have gk:=(hbel.cell (cell_lt gk0)).trans gk0
    obtain ⟨A1,c1,rfl⟩:=row_shapeL hrow (n:=S.length + 1) (by simp)
    obtain ⟨r1,rfl⟩:=row_blockL hrow (by simp)
    have hcl : w3.cell? ⟨r1,S.length,none⟩ = some (.int .i64 j):=by
     rw [rowN_cell (rowL_of hrow (n:=S.length + 1) (by simp)) (by omega),nmap_snoc,List.getElem?_append_right (by simp)]
     simp [nV]
    have gj:=(hbel.cell (cell_lt gj0)).trans gj0
    go_wp2_with fail
    go_ret
    exact ⟨by rw [HE.out]; rfl,hbel⟩
end Go.Proofs.YtbnppjmmlfncmaaGreatDoor
