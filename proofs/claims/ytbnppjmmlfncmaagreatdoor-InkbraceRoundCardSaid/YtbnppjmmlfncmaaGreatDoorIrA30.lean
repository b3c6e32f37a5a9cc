/-
  The reference's Step (hexaplaref05) where something is open: a key, or an attribute.
-/
import Derived.Test.YtbnppjmmlfncmaaGreatDoorIrA26
import Derived.Deep.QuietTactic
import Derived.BigQuiet
set_option maxRecDepth 100000
set_option linter.unusedSectionVars false
namespace Go.Proofs.YtbnppjmmlfncmaaGreatDoor
open Go.RowKit
variable [Fo]
theorem stepE_key {p : Pt} {r : List Pt} {x : Ev} (hf : formedB x = true) (hk : x.k = 8 \/ x.k = 11) : stepE (p :: r) x = if contB p.kind p.last x.k (emptyT x.t) = false then 19 else addE p.keys x.t.data.toList:=by
 have he : endsK x.k = false:=by unfold endsK; rw [decide_eq_false_iff_not]; omega
 have ho : opensK x.k = false:=by unfold opensK; rw [decide_eq_false_iff_not]; omega
 simp only [stepE,hf,he,ho,if_pos hk,addE]
 cases hc : contB p.kind p.last x.k (emptyT x.t) with
 | false => simp
 | true => simp
set_option maxHeartbeats 40000000 in
theorem rstep_keybad (w : World) (v : Value) (had : List Ev) (p : Pt) (r : List Pt) (x : Ev) (pl : Nat) (ps : List Nat) (hv : ERead w v had) (hn : had.length <= 100000) (hs : x.t.size <= 1099511627776) (hs2 : x.v.size <= 1099511627776) (hf : formedB x = true)
 (ha : atL had = pl :: ps) (hI : Inner had 0 pl p) (hk : x.k = 8 \/ x.k = 11) (hcb : contB p.kind p.last x.k (emptyT x.t) = false) :
 Calls Tryz.prog 63 #[v,evV x] w (RSPost w (p :: r) x):=by
 obtain ⟨hpl,hkd,hop,_,hlast,hkeys,hlt⟩:=hI
 have hE : stepE (p :: r) x = 19:=by rw [stepE_key hf hk,if_pos hcb]
 unfold RSPost
 have HE:=Lib.hid hE
 rw [hE]
 have hF:=fun w' => rightV x w' hs hs2
 have HF:=Lib.hid hf
 have HA:=Lib.hid ha
 have hX:=EvAt.new w x
 have hbel:=(Below.refl w.heap.size w).alloc (Nat.le_refl _) (.cells #[.int .i64 x.k,.string x.t,.string x.v] 67)
 have hv':=hv
 obtain ⟨A,c,rfl,_,_,hr⟩:=hv'
 obtain ⟨bb,oo,rfl,hc⟩:=hr (by omega)
 have gk0:=(hc pl hpl).1
 rw [<- kindAt_get hpl,hkd] at gk0
 obtain ⟨out,hout⟩ : ∃ out,ownL had pl = out:=⟨_,rfl⟩
 rw [hout] at hlast hlt hkeys
 have hli : (pl : Int) < had.length:=by omega
 obtain ⟨K,hK⟩ : ∃ K,p.kind = K:=⟨_,rfl⟩
 obtain ⟨L,hL⟩ : ∃ L,p.last = L:=⟨_,rfl⟩
 rw [hK] at gk0 hop hcb
 rw [hL] at hlast hcb
 unfold opensK at hop
 rw [decide_eq_true_iff] at hop
 clear hf ha hr hE hkd hK hL hkeys
 unfold evV
 obtain ⟨k,t,u⟩:=x
 simp only at *
 rcases List.eq_nil_or_concat out with rfl | ⟨S,j,hSj⟩
 ·have HO:=Lib.hid hout
  have hL0 : L = 0:=by rw [<- hlast]; rfl
  subst hL0
  clear hout hlast hlt hc
  rcases hop with rfl | rfl | rfl
  ·rcases hk with rfl | rfl
   iterate 2
    ·clear hcb
     have x0:=hX.c0
     have x1:=hX.c1
     have x2:=hX.c2
     simp only at x0 x1 x2
     go_enter Tryz.func63,Tryz.ntmps63
     go_wp2_with fail
     refine (hF _).mono ?_
     rintro e w1 ⟨rfl,hb1⟩
     rw [HF.out]
     replace hX:=hX.below hb1
     replace hbel:=hbel.trans (hb1.mono hbel.size)
     have z0:=hX.c0
     simp only at z0
     go_wp2_with fail
     refine (at_any _ _ had (hv.below hbel) hn).mono ?_
     rintro e w2 ⟨he,hb2⟩
     rw [atEnd_cons HA.out] at he
     subst he
     replace hX:=hX.below hb2
     replace hbel:=hbel.trans (hb2.mono hbel.size)
     have y0:=hX.c0
     simp only at y0
     clear x0 x1 x2 z0
     go_wp2_with fail
     refine (rown_any _ _ had pl (hv.below hbel) hn hpl).mono ?_
     rintro e w3 ⟨vo,rfl,hrow,hb3⟩
     rw [HO.out] at hrow
     replace hX:=hX.below hb3
     replace hbel:=hbel.trans (hb3.mono hbel.size)
     have u0:=hX.c0
     have u1:=hX.c1
     simp only at u0 u1
     have gk:=(hbel.cell (cell_lt gk0)).trans gk0
     obtain ⟨A1,c1,rfl⟩:=row_shapeL hrow (n:=0) rfl
     go_wp2_with fail
     go_ret
     exact ⟨rfl,hbel⟩
  ·rcases hk with rfl | rfl
   ·exact absurd hcb (by simp [contB])
   ·clear hcb
    have x0:=hX.c0
    have x1:=hX.c1
    have x2:=hX.c2
    simp only at x0 x1 x2
    go_enter Tryz.func63,Tryz.ntmps63
    go_wp2_with fail
    refine (hF _).mono ?_
    rintro e w1 ⟨rfl,hb1⟩
    rw [HF.out]
    replace hX:=hX.below hb1
    replace hbel:=hbel.trans (hb1.mono hbel.size)
    have z0:=hX.c0
    simp only at z0
    go_wp2_with fail
    refine (at_any _ _ had (hv.below hbel) hn).mono ?_
    rintro e w2 ⟨he,hb2⟩
    rw [atEnd_cons HA.out] at he
    subst he
    replace hX:=hX.below hb2
    replace hbel:=hbel.trans (hb2.mono hbel.size)
    have y0:=hX.c0
    simp only at y0
    clear x0 x1 x2 z0
    go_wp2_with fail
    refine (rown_any _ _ had pl (hv.below hbel) hn hpl).mono ?_
    rintro e w3 ⟨vo,rfl,hrow,hb3⟩
    rw [HO.out] at hrow
    replace hX:=hX.below hb3
    replace hbel:=hbel.trans (hb3.mono hbel.size)
    have u0:=hX.c0
    have u1:=hX.c1
    simp only at u0 u1
    have gk:=(hbel.cell (cell_lt gk0)).trans gk0
    obtain ⟨A1,c1,rfl⟩:=row_shapeL hrow (n:=0) rfl
    go_wp2_with fail
    go_ret
    exact ⟨rfl,hbel⟩
  ·rcases hk with rfl | rfl
   ·clear hcb
    have x0:=hX.c0
    have x1:=hX.c1
    have x2:=hX.c2
    simp only at x0 x1 x2
    go_enter Tryz.func63,Tryz.ntmps63
    go_wp2_with fail
    refine (hF _).mono ?_
    rintro e w1 ⟨rfl,hb1⟩
    rw [HF.out]
    replace hX:=hX.below hb1
    replace hbel:=hbel.trans (hb1.mono hbel.size)
    have z0:=hX.c0
    simp only at z0
    go_wp2_with fail
    refine (at_any _ _ had (hv.below hbel) hn).mono ?_
    rintro e w2 ⟨he,hb2⟩
    rw [atEnd_cons HA.out] at he
    subst he
    replace hX:=hX.below hb2
    replace hbel:=hbel.trans (hb2.mono hbel.size)
    have y0:=hX.c0
    simp only at y0
    clear x0 x1 x2 z0
    go_wp2_with fail
    refine (rown_any _ _ had pl (hv.below hbel) hn hpl).mono ?_
    rintro e w3 ⟨vo,rfl,hrow,hb3⟩
    rw [HO.out] at hrow
    replace hX:=hX.below hb3
    replace hbel:=hbel.trans (hb3.mono hbel.size)
    have u0:=hX.c0
    have u1:=hX.c1
    simp only at u0 u1
    have gk:=(hbel.cell (cell_lt gk0)).trans gk0
    obtain ⟨A1,c1,rfl⟩:=row_shapeL hrow (n:=0) rfl
    go_wp2_with fail
    go_ret
    exact ⟨rfl,hbel⟩
   ·exact absurd hcb (by simp [contB,contElem])
 ·rw [List.concat_eq_append] at hSj
  subst hSj
  have HO:=Lib.hid hout
  have hj : j < had.length:=hlt j (by simp)
  rw [lastK_snoc] at hlast
  have gj0:=(hc j hj).1
  rw [<- kindAt_get hj,hlast] at gj0
  have hSl : S.length + 1 <= 100000:=by
   have h1:=(ownT_lt had pl had.length (by omega) (Nat.le_refl _)).2
   rw [ownT_end had pl had.length (Nat.le_refl _)] at h1
   have h2 : (ownL had pl).length <= had.length:=h1
   rw [hout] at h2
   simp at h2
   omega
  have hji : (j : Int) < had.length:=by omega
  clear hout hlast hlt hc
  rcases hop with rfl | rfl | rfl
  ·rcases hk with rfl | rfl
   iterate 2
    ·clear hcb
     have x0:=hX.c0
     have x1:=hX.c1
     have x2:=hX.c2
     simp only at x0 x1 x2
     go_enter Tryz.func63,Tryz.ntmps63
     go_wp2_with fail
     refine (hF _).mono ?_
     rintro e w1 ⟨rfl,hb1⟩
     rw [HF.out]
     replace hX:=hX.below hb1
     replace hbel:=hbel.trans (hb1.mono hbel.size)
     have z0:=hX.c0
     simp only at z0
     go_wp2_with fail
     refine (at_any _ _ had (hv.below hbel) hn).mono ?_
     rintro e w2 ⟨he,hb2⟩
     rw [atEnd_cons HA.out] at he
     subst he
     replace hX:=hX.below hb2
     replace hbel:=hbel.trans (hb2.mono hbel.size)
     have y0:=hX.c0
     simp only at y0
     clear x0 x1 x2 z0
     go_wp2_with fail
     refine (rown_any _ _ had pl (hv.below hbel) hn hpl).mono ?_
     rintro e w3 ⟨vo,rfl,hrow,hb3⟩
     rw [HO.out] at hrow
     replace hX:=hX.below hb3
     replace hbel:=hbel.trans (hb3.mono hbel.size)
     have u0:=hX.c0
     have u1:=hX.c1
     simp only at u0 u1
     have gk:=(hbel.cell (cell_lt gk0)).trans gk0
     obtain ⟨A1,c1,rfl⟩:=row_shapeL hrow (n:=S.length + 1) (by simp)
     obtain ⟨r1,rfl⟩:=row_blockL hrow (by simp)
     have hcl : w3.cell? ⟨r1,S.length,none⟩ = some (.int .i64 j):=by
      rw [rowN_cell (rowL_of hrow (n:=S.length + 1) (by simp)) (by omega),nmap_snoc,List.getElem?_append_right (by simp)]
      simp [nV]
     have gj:=(hbel.cell (cell_lt gj0)).trans gj0
     go_wp2_with fail
     go_ret
     exact ⟨rfl,hbel⟩
  ·rcases hk with rfl | rfl
   ·by_cases hl8 : L = 8
    ·subst hl8
     clear hcb
     have x0:=hX.c0
     have x1:=hX.c1
     have x2:=hX.c2
     simp only at x0 x1 x2
     go_enter Tryz.func63,Tryz.ntmps63
     go_wp2_with fail
     refine (hF _).mono ?_
     rintro e w1 ⟨rfl,hb1⟩
     rw [HF.out]
     replace hX:=hX.below hb1
     replace hbel:=hbel.trans (hb1.mono hbel.size)
     have z0:=hX.c0
     simp only at z0
     go_wp2_with fail
     refine (at_any _ _ had (hv.below hbel) hn).mono ?_
     rintro e w2 ⟨he,hb2⟩
     rw [atEnd_cons HA.out] at he
     subst he
     replace hX:=hX.below hb2
     replace hbel:=hbel.trans (hb2.mono hbel.size)
     have y0:=hX.c0
     simp only at y0
     clear x0 x1 x2 z0
     go_wp2_with fail
     refine (rown_any _ _ had pl (hv.below hbel) hn hpl).mono ?_
     rintro e w3 ⟨vo,rfl,hrow,hb3⟩
     rw [HO.out] at hrow
     replace hX:=hX.below hb3
     replace hbel:=hbel.trans (hb3.mono hbel.size)
     have u0:=hX.c0
     have u1:=hX.c1
     simp only at u0 u1
     have gk:=(hbel.cell (cell_lt gk0)).trans gk0
     obtain ⟨A1,c1,rfl⟩:=row_shapeL hrow (n:=S.length + 1) (by simp)
     obtain ⟨r1,rfl⟩:=row_blockL hrow (by simp)
     have hcl : w3.cell? ⟨r1,S.length,none⟩ = some (.int .i64 j):=by
      rw [rowN_cell (rowL_of hrow (n:=S.length + 1) (by simp)) (by omega),nmap_snoc,List.getElem?_append_right (by simp)]
      simp [nV]
     have gj:=(hbel.cell (cell_lt gj0)).trans gj0
     go_wp2_with fail
     go_ret
     exact ⟨rfl,hbel⟩
    ·exact absurd hcb (by simp [contB,hl8])
   ·by_cases hl8 : L = 8
    ·subst hl8
     clear hcb
     have x0:=hX.c0
     have x1:=hX.c1
     have x2:=hX.c2
     simp only at x0 x1 x2
     go_enter Tryz.func63,Tryz.ntmps63
     go_wp2_with fail
     refine (hF _).mono ?_
     rintro e w1 ⟨rfl,hb1⟩
     rw [HF.out]
     replace hX:=hX.below hb1
     replace hbel:=hbel.trans (hb1.mono hbel.size)
     have z0:=hX.c0
     simp only at z0
     go_wp2_with fail
     refine (at_any _ _ had (hv.below hbel) hn).mono ?_
     rintro e w2 ⟨he,hb2⟩
     rw [atEnd_cons HA.out] at he
     subst he
     replace hX:=hX.below hb2
     replace hbel:=hbel.trans (hb2.mono hbel.size)
     have y0:=hX.c0
     simp only at y0
     clear x0 x1 x2 z0
     go_wp2_with fail
     refine (rown_any _ _ had pl (hv.below hbel) hn hpl).mono ?_
     rintro e w3 ⟨vo,rfl,hrow,hb3⟩
     rw [HO.out] at hrow
     replace hX:=hX.below hb3
     replace hbel:=hbel.trans (hb3.mono hbel.size)
     have u0:=hX.c0
     have u1:=hX.c1
     simp only at u0 u1
     have gk:=(hbel.cell (cell_lt gk0)).trans gk0
     obtain ⟨A1,c1,rfl⟩:=row_shapeL hrow (n:=S.length + 1) (by simp)
     obtain ⟨r1,rfl⟩:=row_blockL hrow (by simp)
     have hcl : w3.cell? ⟨r1,S.length,none⟩ = some (.int .i64 j):=by
      rw [rowN_cell (rowL_of hrow (n:=S.length + 1) (by simp)) (by omega),nmap_snoc,List.getElem?_append_right (by simp)]
      simp [nV]
     have gj:=(hbel.cell (cell_lt gj0)).trans gj0
     go_wp2_with fail
     go_ret
     exact ⟨rfl,hbel⟩
    ·have e8:=ne_beq hl8
     clear hcb
     have x0:=hX.c0
     have x1:=hX.c1
     have x2:=hX.c2
     simp only at x0 x1 x2
     go_enter Tryz.func63,Tryz.ntmps63
     go_wp2_with fail
     refine (hF _).mono ?_
     rintro e w1 ⟨rfl,hb1⟩
     rw [HF.out]
     replace hX:=hX.below hb1
     replace hbel:=hbel.trans (hb1.mono hbel.size)
     have z0:=hX.c0
     simp only at z0
     go_wp2_with fail
     refine (at_any _ _ had (hv.below hbel) hn).mono ?_
     rintro e w2 ⟨he,hb2⟩
     rw [atEnd_cons HA.out] at he
     subst he
     replace hX:=hX.below hb2
     replace hbel:=hbel.trans (hb2.mono hbel.size)
     have y0:=hX.c0
     simp only at y0
     clear x0 x1 x2 z0
     go_wp2_with fail
     refine (rown_any _ _ had pl (hv.below hbel) hn hpl).mono ?_
     rintro e w3 ⟨vo,rfl,hrow,hb3⟩
     rw [HO.out] at hrow
     replace hX:=hX.below hb3
     replace hbel:=hbel.trans (hb3.mono hbel.size)
     have u0:=hX.c0
     have u1:=hX.c1
     simp only at u0 u1
     have gk:=(hbel.cell (cell_lt gk0)).trans gk0
     obtain ⟨A1,c1,rfl⟩:=row_shapeL hrow (n:=S.length + 1) (by simp)
     obtain ⟨r1,rfl⟩:=row_blockL hrow (by simp)
     have hcl : w3.cell? ⟨r1,S.length,none⟩ = some (.int .i64 j):=by
      rw [rowN_cell (rowL_of hrow (n:=S.length + 1) (by simp)) (by omega),nmap_snoc,List.getElem?_append_right (by simp)]
      simp [nV]
     have gj:=(hbel.cell (cell_lt gj0)).trans gj0
     go_wp2_with fail
     go_ret
     exact ⟨rfl,hbel⟩
  ·rcases hk with rfl | rfl
   ·clear hcb
    have x0:=hX.c0
    have x1:=hX.c1
    have x2:=hX.c2
    simp only at x0 x1 x2
    go_enter Tryz.func63,Tryz.ntmps63
    go_wp2_with fail
    refine (hF _).mono ?_
    rintro e w1 ⟨rfl,hb1⟩
    rw [HF.out]
    replace hX:=hX.below hb1
    replace hbel:=hbel.trans (hb1.mono hbel.size)
    have z0:=hX.c0
    simp only at z0
    go_wp2_with fail
    refine (at_any _ _ had (hv.below hbel) hn).mono ?_
    rintro e w2 ⟨he,hb2⟩
    rw [atEnd_cons HA.out] at he
    subst he
    replace hX:=hX.below hb2
    replace hbel:=hbel.trans (hb2.mono hbel.size)
    have y0:=hX.c0
    simp only at y0
    clear x0 x1 x2 z0
    go_wp2_with fail
    refine (rown_any _ _ had pl (hv.below hbel) hn hpl).mono ?_
    rintro e w3 ⟨vo,rfl,hrow,hb3⟩
    rw [HO.out] at hrow
    replace hX:=hX.below hb3
    replace hbel:=hbel.trans (hb3.mono hbel.size)
    have u0:=hX.c0
    have u1:=hX.c1
    simp only at u0 u1
    have gk:=(hbel.cell (cell_lt gk0)).trans gk0
    obtain ⟨A1,c1,rfl⟩:=row_shapeL hrow (n:=S.length + 1) (by simp)
    obtain ⟨r1,rfl⟩:=row_blockL hrow (by simp)
    have hcl : w3.cell? ⟨r1,S.length,none⟩ = some (.int .i64 j):=by
     rw [rowN_cell (rowL_of hrow (n:=S.length + 1) (by simp)) (by omega),nmap_snoc,List.getElem?_append_right (by simp)]
     simp [nV]
    have gj:=(hbel.cell (cell_lt gj0)).trans gj0
    go_wp2_with fail
    go_ret
    exact ⟨rfl,hbel⟩
   ·by_cases hl0 : L = 0
    ·exact absurd hcb (by simp [contB,contElem,hl0])
    ·by_cases hl11 : L = 11
     ·exact absurd hcb (by simp [contB,contElem,hl11])
     ·have e0:=ne_beq hl0
      have e11:=ne_beq hl11
      clear hcb
      have x0:=hX.c0
      have x1:=hX.c1
      have x2:=hX.c2
      simp only at x0 x1 x2
      go_enter Tryz.func63,Tryz.ntmps63
      go_wp2_with fail
      refine (hF _).mono ?_
      rintro e w1 ⟨rfl,hb1⟩
      rw [HF.out]
      replace hX:=hX.below hb1
      replace hbel:=hbel.trans (hb1.mono hbel.size)
      have z0:=hX.c0
      simp only at z0
      go_wp2_with fail
      refine (at_any _ _ had (hv.below hbel) hn).mono ?_
      rintro e w2 ⟨he,hb2⟩
      rw [atEnd_cons HA.out] at he
      subst he
      replace hX:=hX.below hb2
      replace hbel:=hbel.trans (hb2.mono hbel.size)
      have y0:=hX.c0
      simp only at y0
      clear x0 x1 x2 z0
      go_wp2_with fail
      refine (rown_any _ _ had pl (hv.below hbel) hn hpl).mono ?_
      rintro e w3 ⟨vo,rfl,hrow,hb3⟩
      rw [HO.out] at hrow
      replace hX:=hX.below hb3
      replace hbel:=hbel.trans (hb3.mono hbel.size)
      have u0:=hX.c0
      have u1:=hX.c1
      simp only at u0 u1
      have gk:=(hbel.cell (cell_lt gk0)).trans gk0
      obtain ⟨A1,c1,rfl⟩:=row_shapeL hrow (n:=S.length + 1) (by simp)
      obtain ⟨r1,rfl⟩:=row_blockL hrow (by simp)
      have hcl : w3.cell? ⟨r1,S.length,none⟩ = some (.int .i64 j):=by
       rw [rowN_cell (rowL_of hrow (n:=S.length + 1) (by simp)) (by omega),nmap_snoc,List.getElem?_append_right (by simp)]
       simp [nV]
      have gj:=(hbel.cell (cell_lt gj0)).trans gj0
      go_wp2_with fail
      go_ret
      exact ⟨rfl,hbel⟩
end Go.Proofs.YtbnppjmmlfncmaaGreatDoor
