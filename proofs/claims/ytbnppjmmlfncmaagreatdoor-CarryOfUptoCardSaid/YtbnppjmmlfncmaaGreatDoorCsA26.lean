/-
  The reference's Step (hexaplaref05) where something is open: a key, or an attribute.
  The reference's Step (hexaplaref05) where a key, or an attribute, may stand: whether it stands twice, and how many there are.
-/
import Derived.Test.YtbnppjmmlfncmaaGreatDoorCsA22
import Derived.Deep.QuietTactic
import Derived.BigQuiet
set_option maxRecDepth 100000
namespace Go.Proofs.YtbnppjmmlfncmaaGreatDoor
open Go.RowKit
theorem stepE_key {p : Pt} {r : List Pt} {x : Ev} (hf : formedB x = true) (hk : x.k = 8 \/ x.k = 11) : stepE (p :: r) x = if contB p.kind p.last x.k (emptyT x.t) = false then 19 else addE p.keys x.t.data.toList:=by
 have he : endsK x.k = false:=by unfold endsK; rw [decide_eq_false_iff_not]; omega
 have ho : opensK x.k = false:=by unfold opensK; rw [decide_eq_false_iff_not]; omega
 simp only [stepE,hf,he,ho,if_pos hk,addE]
 cases hc : contB p.kind p.last x.k (emptyT x.t) with
 | false => simp
 | true => simp
set_option maxHeartbeats 40000000 in
theorem rstep_keybad (w : World) (v : Value) (had : List Ev) (p : Pt) (r : List Pt) (x : Ev) (pl : Nat) (ps : List Nat) (hv : ERead w v had) (hn : had.length <= 100000) (hs : x.t.size <= 1099511627776) (hs2 : x.v.size <= 1099511627776) (hf : formedB x = true)
 (ha : atL had = pl :: ps) (hI : Inner had 0 pl p) (hk : x.k = 8 \/ x.k = 11) (hcb : contB p.kind p.last x.k (emptyT x.t) = false) :
 Calls Tryz.prog 63 #[v,evV x] w (RSPost w (p :: r) x):=by
 obtain ⟨hpl,hkd,hop,_,hlast,hkeys,hlt⟩:=hI
 have hE : stepE (p :: r) x = 19:=by rw [stepE_key hf hk,if_pos hcb]
 unfold RSPost
 have HE:=Lib.hid hE
 rw [hE]
 have hF:=fun w' => rightV x w' hs hs2
 have HF:=Lib.hid hf
 have HA:=Lib.hid ha
 have hX:=EvAt.new w x
 have hbel:=(Below.refl w.heap.size w).alloc (Nat.le_refl _) (.cells #[.int .i64 x.k,.string x.t,.string x.v] 67)
 have hv':=hv
 obtain ⟨A,c,rfl,_,_,hr⟩:=hv'
 obtain ⟨bb,oo,rfl,hc⟩:=hr (by omega)
 have gk0:=(hc pl hpl).1
 rw [<- kindAt_get hpl,hkd] at gk0
 obtain ⟨out,hout⟩ : ∃ out,ownL had pl = out:=⟨_,rfl⟩
 rw [hout] at hlast hlt hkeys
 have hli : (pl : Int) < had.length:=by omega
 obtain ⟨K,hK⟩ : ∃ K,p.kind = K:=⟨_,rfl⟩
 obtain ⟨L,hL⟩ : ∃ L,p.last = L:=⟨_,rfl⟩
 rw [hK] at gk0 hop hcb
 rw [hL] at hlast hcb
 unfold opensK at hop
 rw [decide_eq_true_iff] at hop
 clear hf ha hr hE hkd hK hL hkeys
 unfold evV
 obtain ⟨k,t,u⟩:=x
 simp only at *
 rcases List.eq_nil_or_concat out with rfl | ⟨S,j,hSj⟩
 ·have HO:=Lib.hid hout
  have hL0 : L = 0:=by rw [<- hlast]; rfl
  subst hL0
  clear hout hlast hlt hc
  rcases hop with rfl | rfl | rfl
  ·rcases hk with rfl | rfl
   iterate 2
    ·clear hcb
     have x0:=hX.c0
     have x1:=hX.c1
     have x2:=hX.c2
     simp only at x0 x1 x2
     go_enter Tryz.func63,Tryz.ntmps63
     go_wp2_with fail
     refine (hF _).mono ?_
     rintro e w1 ⟨rfl,hb1⟩
     rw [HF.out]
     replace hX:=hX.below hb1
     replace hbel:=hbel.trans (hb1.mono hbel.size)
     have z0:=hX.c0
     simp only at z0
     go_wp2_with fail
     refine (at_any _ _ had (hv.below hbel) hn).mono ?_
     rintro e w2 ⟨he,hb2⟩
     rw [atEnd_cons HA.out] at he
     subst he
     replace hX:=hX.below hb2
     replace hbel:=hbel.trans (hb2.mono hbel.size)
     have y0:=hX.c0
     simp only at y0
     clear x0 x1 x2 z0
     go_wp2_with fail
     refine (rown_any _ _ had pl (hv.below hbel) hn hpl).mono ?_
     rintro e w3 ⟨vo,rfl,hrow,hb3⟩
     rw [HO.out] at hrow
     replace hX:=hX.below hb3
     replace hbel:=hbel.trans (hb3.mono hbel.size)
     have u0:=hX.c0
     have u1:=hX.c1
     simp only at u0 u1
     have gk:=(hbel.cell (cell_lt gk0)).trans gk0
     obtain ⟨A1,c1,rfl⟩:=row_shapeL hrow (n:=0) rfl
     go_wp2_with fail
     go_ret
     exact ⟨rfl,hbel⟩
  ·rcases hk with rfl | rfl
   ·exact absurd hcb (by simp [contB])
   ·clear hcb
    have x0:=hX.c0
    have x1:=hX.c1
    have x2:=hX.c2
    simp only at x0 x1 x2
    go_enter Tryz.func63,Tryz.ntmps63
    go_wp2_with fail
    refine (hF _).mono ?_
    rintro e w1 ⟨rfl,hb1⟩
    rw [HF.out]
    replace hX:=hX.below hb1
    replace hbel:=hbel.trans (hb1.mono hbel.size)
    have z0:=hX.c0
    simp only at z0
    go_wp2_with fail
    refine (at_any _ _ had (hv.below hbel) hn).mono ?_
    rintro e w2 ⟨he,hb2⟩
    rw [atEnd_cons HA.out] at he
    subst he
    replace hX:=hX.below hb2
    replace hbel:=hbel.trans (hb2.mono hbel.size)
    have y0:=hX.c0
    simp only at y0
    clear x0 x1 x2 z0
    go_wp2_with fail
    refine (rown_any _ _ had pl (hv.below hbel) hn hpl).mono ?_
    rintro e w3 ⟨vo,rfl,hrow,hb3⟩
    rw [HO.out] at hrow
    replace hX:=hX.below hb3
    replace hbel:=hbel.trans (hb3.mono hbel.size)
    have u0:=hX.c0
    have u1:=hX.c1
    simp only at u0 u1
    have gk:=(hbel.cell (cell_lt gk0)).trans gk0
    obtain ⟨A1,c1,rfl⟩:=row_shapeL hrow (n:=0) rfl
    go_wp2_with fail
    go_ret
    exact ⟨rfl,hbel⟩
  ·rcases hk with rfl | rfl
   ·clear hcb
    have x0:=hX.c0
    have x1:=hX.c1
    have x2:=hX.c2
    simp only at x0 x1 x2
    go_enter Tryz.func63,Tryz.ntmps63
    go_wp2_with fail
    refine (hF _).mono ?_
    rintro e w1 ⟨rfl,hb1⟩
    rw [HF.out]
    replace hX:=hX.below hb1
    replace hbel:=hbel.trans (hb1.mono hbel.size)
    have z0:=hX.c0
    simp only at z0
    go_wp2_with fail
    refine (at_any _ _ had (hv.below hbel) hn).mono ?_
    rintro e w2 ⟨he,hb2⟩
    rw [atEnd_cons HA.out] at he
    subst he
    replace hX:=hX.below hb2
    replace hbel:=hbel.trans (hb2.mono hbel.size)
    have y0:=hX.c0
    simp only at y0
    clear x0 x1 x2 z0
    go_wp2_with fail
    refine (rown_any _ _ had pl (hv.below hbel) hn hpl).mono ?_
    rintro e w3 ⟨vo,rfl,hrow,hb3⟩
    rw [HO.out] at hrow
    replace hX:=hX.below hb3
    replace hbel:=hbel.trans (hb3.mono hbel.size)
    have u0:=hX.c0
    have u1:=hX.c1
    simp only at u0 u1
    have gk:=(hbel.cell (cell_lt gk0)).trans gk0
    obtain ⟨A1,c1,rfl⟩:=row_shapeL hrow (n:=0) rfl
    go_wp2_with fail
    go_ret
    exact ⟨rfl,hbel⟩
   ·exact absurd hcb (by simp [contB,contElem])
 ·rw [List.concat_eq_append] at hSj
  subst hSj
  have HO:=Lib.hid hout
  have hj : j < had.length:=hlt j (by simp)
  rw [lastK_snoc] at hlast
  have gj0:=(hc j hj).1
  rw [<- kindAt_get hj,hlast] at gj0
  have hSl : S.length + 1 <= 100000:=by
   have h1:=(ownT_lt had pl had.length (by omega) (Nat.le_refl _)).2
   rw [ownT_end had pl had.length (Nat.le_refl _)] at h1
   have h2 : (ownL had pl).length <= had.length:=h1
   rw [hout] at h2
   simp at h2
   omega
  have hji : (j : Int) < had.length:=by omega
  clear hout hlast hlt hc
  rcases hop with rfl | rfl | rfl
  ·rcases hk with rfl | rfl
   iterate 2
    ·clear hcb
     have x0:=hX.c0
     have x1:=hX.c1
     have x2:=hX.c2
     simp only at x0 x1 x2
     go_enter Tryz.func63,Tryz.ntmps63
     go_wp2_with fail
     refine (hF _).mono ?_
     rintro e w1 ⟨rfl,hb1⟩
     rw [HF.out]
     replace hX:=hX.below hb1
     replace hbel:=hbel.trans (hb1.mono hbel.size)
     have z0:=hX.c0
     simp only at z0
     go_wp2_with fail
     refine (at_any _ _ had (hv.below hbel) hn).mono ?_
     rintro e w2 ⟨he,hb2⟩
     rw [atEnd_cons HA.out] at he
     subst he
     replace hX:=hX.below hb2
     replace hbel:=hbel.trans (hb2.mono hbel.size)
     have y0:=hX.c0
     simp only at y0
     clear x0 x1 x2 z0
     go_wp2_with fail
     refine (rown_any _ _ had pl (hv.below hbel) hn hpl).mono ?_
     rintro e w3 ⟨vo,rfl,hrow,hb3⟩
     rw [HO.out] at hrow
     replace hX:=hX.below hb3
     replace hbel:=hbel.trans (hb3.mono hbel.size)
     have u0:=hX.c0
     have u1:=hX.c1
     simp only at u0 u1
     have gk:=(hbel.cell (cell_lt gk0)).trans gk0
     obtain ⟨A1,c1,rfl⟩:=row_shapeL hrow (n:=S.length + 1) (by simp)
     obtain ⟨r1,rfl⟩:=row_blockL hrow (by simp)
     have hcl : w3.cell? ⟨r1,S.length,none⟩ = some (.int .i64 j):=by
      rw [rowN_cell (rowL_of hrow (n:=S.length + 1) (by simp)) (by omega),nmap_snoc,List.getElem?_append_right (by simp)]
      simp [nV]
     have gj:=(hbel.cell (cell_lt gj0)).trans gj0
     go_wp2_with fail
     go_ret
     exact ⟨rfl,hbel⟩
  ·rcases hk with rfl | rfl
   ·by_cases hl8 : L = 8
    ·subst hl8
     clear hcb
     have x0:=hX.c0
     have x1:=hX.c1
     have x2:=hX.c2
     simp only at x0 x1 x2
     go_enter Tryz.func63,Tryz.ntmps63
     go_wp2_with fail
     refine (hF _).mono ?_
     rintro e w1 ⟨rfl,hb1⟩
     rw [HF.out]
     replace hX:=hX.below hb1
     replace hbel:=hbel.trans (hb1.mono hbel.size)
     have z0:=hX.c0
     simp only at z0
     go_wp2_with fail
     refine (at_any _ _ had (hv.below hbel) hn).mono ?_
     rintro e w2 ⟨he,hb2⟩
     rw [atEnd_cons HA.out] at he
     subst he
     replace hX:=hX.below hb2
     replace hbel:=hbel.trans (hb2.mono hbel.size)
     have y0:=hX.c0
     simp only at y0
     clear x0 x1 x2 z0
     go_wp2_with fail
     refine (rown_any _ _ had pl (hv.below hbel) hn hpl).mono ?_
     rintro e w3 ⟨vo,rfl,hrow,hb3⟩
     rw [HO.out] at hrow
     replace hX:=hX.below hb3
     replace hbel:=hbel.trans (hb3.mono hbel.size)
     have u0:=hX.c0
     have u1:=hX.c1
     simp only at u0 u1
     have gk:=(hbel.cell (cell_lt gk0)).trans gk0
     obtain ⟨A1,c1,rfl⟩:=row_shapeL hrow (n:=S.length + 1) (by simp)
     obtain ⟨r1,rfl⟩:=row_blockL hrow (by simp)
     have hcl : w3.cell? ⟨r1,S.length,none⟩ = some (.int .i64 j):=by
      rw [rowN_cell (rowL_of hrow (n:=S.length + 1) (by simp)) (by omega),nmap_snoc,List.getElem?_append_right (by simp)]
      simp [nV]
     have gj:=(hbel.cell (cell_lt gj0)).trans gj0
     go_wp2_with fail
     go_ret
     exact ⟨rfl,hbel⟩
    ·exact absurd hcb (by simp [contB,hl8])
   ·by_cases hl8 : L = 8
    ·subst hl8
     clear hcb
     have x0:=hX.c0
     have x1:=hX.c1
     have x2:=hX.c2
     simp only at x0 x1 x2
     go_enter Tryz.func63,Tryz.ntmps63
     go_wp2_with fail
     refine (hF _).mono ?_
     rintro e w1 ⟨rfl,hb1⟩
     rw [HF.out]
     replace hX:=hX.below hb1
     replace hbel:=hbel.trans (hb1.mono hbel.size)
     have z0:=hX.c0
     simp only at z0
     go_wp2_with fail
     refine (at_any _ _ had (hv.below hbel) hn).mono ?_
     rintro e w2 ⟨he,hb2⟩
     rw [atEnd_cons HA.out] at he
     subst he
     replace hX:=hX.below hb2
     replace hbel:=hbel.trans (hb2.mono hbel.size)
     have y0:=hX.c0
     simp only at y0
     clear x0 x1 x2 z0
     go_wp2_with fail
     refine (rown_any _ _ had pl (hv.below hbel) hn hpl).mono ?_
     rintro e w3 ⟨vo,rfl,hrow,hb3⟩
     rw [HO.out] at hrow
     replace hX:=hX.below hb3
     replace hbel:=hbel.trans (hb3.mono hbel.size)
     have u0:=hX.c0
     have u1:=hX.c1
     simp only at u0 u1
     have gk:=(hbel.cell (cell_lt gk0)).trans gk0
     obtain ⟨A1,c1,rfl⟩:=row_shapeL hrow (n:=S.length + 1) (by simp)
     obtain ⟨r1,rfl⟩:=row_blockL hrow (by simp)
     have hcl : w3.cell? ⟨r1,S.length,none⟩ = some (.int .i64 j):=by
      rw [rowN_cell (rowL_of hrow (n:=S.length + 1) (by simp)) (by omega),nmap_snoc,List.getElem?_append_right (by simp)]
      simp [nV]
     have gj:=(hbel.cell (cell_lt gj0)).trans gj0
     go_wp2_with fail
     go_ret
     exact ⟨rfl,hbel⟩
    ·have e8:=ne_beq hl8
     clear hcb
     have x0:=hX.c0
     have x1:=hX.c1
     have x2:=hX.c2
     simp only at x0 x1 x2
     go_enter Tryz.func63,Tryz.ntmps63
     go_wp2_with fail
     refine (hF _).mono ?_
     rintro e w1 ⟨rfl,hb1⟩
     rw [HF.out]
     replace hX:=hX.below hb1
     replace hbel:=hbel.trans (hb1.mono hbel.size)
     have z0:=hX.c0
     simp only at z0
     go_wp2_with fail
     refine (at_any _ _ had (hv.below hbel) hn).mono ?_
     rintro e w2 ⟨he,hb2⟩
     rw [atEnd_cons HA.out] at he
     subst he
     replace hX:=hX.below hb2
     replace hbel:=hbel.trans (hb2.mono hbel.size)
     have y0:=hX.c0
     simp only at y0
     clear x0 x1 x2 z0
     go_wp2_with fail
     refine (rown_any _ _ had pl (hv.below hbel) hn hpl).mono ?_
     rintro e w3 ⟨vo,rfl,hrow,hb3⟩
     rw [HO.out] at hrow
     replace hX:=hX.below hb3
     replace hbel:=hbel.trans (hb3.mono hbel.size)
     have u0:=hX.c0
     have u1:=hX.c1
     simp only at u0 u1
     have gk:=(hbel.cell (cell_lt gk0)).trans gk0
     obtain ⟨A1,c1,rfl⟩:=row_shapeL hrow (n:=S.length + 1) (by simp)
     obtain ⟨r1,rfl⟩:=row_blockL hrow (by simp)
     have hcl : w3.cell? ⟨r1,S.length,none⟩ = some (.int .i64 j):=by
      rw [rowN_cell (rowL_of hrow (n:=S.length + 1) (by simp)) (by omega),nmap_snoc,List.getElem?_append_right (by simp)]
      simp [nV]
     have gj:=(hbel.cell (cell_lt gj0)).trans gj0
     go_wp2_with fail
     go_ret
     exact ⟨rfl,hbel⟩
  ·rcases hk with rfl | rfl
   ·clear hcb
    have x0:=hX.c0
    have x1:=hX.c1
    have x2:=hX.c2
    simp only at x0 x1 x2
    go_enter Tryz.func63,Tryz.ntmps63
    go_wp2_with fail
    refine (hF _).mono ?_
    rintro e w1 ⟨rfl,hb1⟩
    rw [HF.out]
    replace hX:=hX.below hb1
    replace hbel:=hbel.trans (hb1.mono hbel.size)
    have z0:=hX.c0
    simp only at z0
    go_wp2_with fail
    refine (at_any _ _ had (hv.below hbel) hn).mono ?_
    rintro e w2 ⟨he,hb2⟩
    rw [atEnd_cons HA.out] at he
    subst he
    replace hX:=hX.below hb2
    replace hbel:=hbel.trans (hb2.mono hbel.size)
    have y0:=hX.c0
    simp only at y0
    clear x0 x1 x2 z0
    go_wp2_with fail
    refine (rown_any _ _ had pl (hv.below hbel) hn hpl).mono ?_
    rintro e w3 ⟨vo,rfl,hrow,hb3⟩
    rw [HO.out] at hrow
    replace hX:=hX.below hb3
    replace hbel:=hbel.trans (hb3.mono hbel.size)
    have u0:=hX.c0
    have u1:=hX.c1
    simp only at u0 u1
    have gk:=(hbel.cell (cell_lt gk0)).trans gk0
    obtain ⟨A1,c1,rfl⟩:=row_shapeL hrow (n:=S.length + 1) (by simp)
    obtain ⟨r1,rfl⟩:=row_blockL hrow (by simp)
    have hcl : w3.cell? ⟨r1,S.length,none⟩ = some (.int .i64 j):=by
     rw [rowN_cell (rowL_of hrow (n:=S.length + 1) (by simp)) (by omega),nmap_snoc,List.getElem?_append_right (by simp)]
     simp [nV]
    have gj:=(hbel.cell (cell_lt gj0)).trans gj0
    go_wp2_with fail
    go_ret
    exact ⟨rfl,hbel⟩
   ·by_cases hl0 : L = 0
    ·exact absurd hcb (by simp [contB,contElem,hl0])
    ·by_cases hl11 : L = 11
     ·exact absurd hcb (by simp [contB,contElem,hl11])
     ·have e0:=ne_beq hl0
      have e11:=ne_beq hl11
      clear hcb
      have x0:=hX.c0
      have x1:=hX.c1
      have x2:=hX.c2
      simp only at x0 x1 x2
      go_enter Tryz.func63,Tryz.ntmps63
      go_wp2_with fail
      refine (hF _).mono ?_
      rintro e w1 ⟨rfl,hb1⟩
      rw [HF.out]
      replace hX:=hX.below hb1
      replace hbel:=hbel.trans (hb1.mono hbel.size)
      have z0:=hX.c0
      simp only at z0
      go_wp2_with fail
      refine (at_any _ _ had (hv.below hbel) hn).mono ?_
      rintro e w2 ⟨he,hb2⟩
      rw [atEnd_cons HA.out] at he
      subst he
      replace hX:=hX.below hb2
      replace hbel:=hbel.trans (hb2.mono hbel.size)
      have y0:=hX.c0
      simp only at y0
      clear x0 x1 x2 z0
      go_wp2_with fail
      refine (rown_any _ _ had pl (hv.below hbel) hn hpl).mono ?_
      rintro e w3 ⟨vo,rfl,hrow,hb3⟩
      rw [HO.out] at hrow
      replace hX:=hX.below hb3
      replace hbel:=hbel.trans (hb3.mono hbel.size)
      have u0:=hX.c0
      have u1:=hX.c1
      simp only at u0 u1
      have gk:=(hbel.cell (cell_lt gk0)).trans gk0
      obtain ⟨A1,c1,rfl⟩:=row_shapeL hrow (n:=S.length + 1) (by simp)
      obtain ⟨r1,rfl⟩:=row_blockL hrow (by simp)
      have hcl : w3.cell? ⟨r1,S.length,none⟩ = some (.int .i64 j):=by
       rw [rowN_cell (rowL_of hrow (n:=S.length + 1) (by simp)) (by omega),nmap_snoc,List.getElem?_append_right (by simp)]
       simp [nV]
      have gj:=(hbel.cell (cell_lt gj0)).trans gj0
      go_wp2_with fail
      go_ret
      exact ⟨rfl,hbel⟩
def ksT (l : List Ev) (k : Int) (out : List Nat) : List (List UInt8):=(out.filter fun i => decide (kindAt l i = k)).map (textAt l)
theorem keysK_ksT (l : List Ev) (k : Int) (out : List Nat) : keysK l k out = (ksT l k out).reverse:=rfl
theorem ksT_len (l : List Ev) (k : Int) (out : List Nat) : (ksT l k out).length <= out.length:=by
 unfold ksT; rw [List.length_map]; exact List.length_filter_le _ _
theorem ksT_yes {l : List Ev} {k : Int} {out : List Nat} {j : Nat} (hj : j < out.length) (h : kindAt l out[j] = k) : ksT l k (out.take (j + 1)) = ksT l k (out.take j) ++ [textAt l out[j]]:=by
 unfold ksT; rw [List.take_succ_eq_append_getElem hj,List.filter_append,List.map_append]; simp [h]
theorem ksT_no {l : List Ev} {k : Int} {out : List Nat} {j : Nat} (hj : j < out.length) (h : ¬ kindAt l out[j] = k) : ksT l k (out.take (j + 1)) = ksT l k (out.take j):=by
 unfold ksT; rw [List.take_succ_eq_append_getElem hj,List.filter_append,List.map_append]; simp [h]
theorem ksT_mem {l : List Ev} {k : Int} {out : List Nat} {j : Nat} (hj : j < out.length) (h : kindAt l out[j] = k) : textAt l out[j] ∈ ksT l k out :=
 List.mem_map.2 ⟨out[j],List.mem_filter.2 ⟨List.getElem_mem hj,decide_eq_true h⟩,rfl⟩
set_option maxHeartbeats 40000000 in
theorem rstep_key7 (w : World) (v : Value) (had : List Ev) (p : Pt) (r : List Pt) (x : Ev) (pl : Nat) (ps : List Nat) (hv : ERead w v had) (hn : had.length <= 100000) (hs : x.t.size <= 1099511627776) (hs2 : x.v.size <= 1099511627776) (hf : formedB x = true)
 (ha : atL had = pl :: ps) (hI : Inner had 0 pl p) (hk : x.k = 8) (hp : p.kind = 7) (hl : p.last ≠ 8) :
 Calls Tryz.prog 63 #[v,evV x] w (RSPost w (p :: r) x):=by
 obtain ⟨hpl,hkd,hop,_,hlast,hkeys,hlt⟩:=hI
 have hE : stepE (p :: r) x = addE p.keys x.t.data.toList:=by
  rw [stepE_key hf (by omega),if_neg (by rw [hp,hk]; simp [contB,hl])]
 unfold RSPost
 have HE:=Lib.hid hE
 have hF:=fun w' => rightV x w' hs hs2
 have HF:=Lib.hid hf
 have HA:=Lib.hid ha
 have hX:=EvAt.new w x
 have hbel:=(Below.refl w.heap.size w).alloc (Nat.le_refl _) (.cells #[.int .i64 x.k,.string x.t,.string x.v] 67)
 have hv':=hv
 obtain ⟨A,c,rfl,_,_,hr⟩:=hv'
 obtain ⟨bb,oo,rfl,hc⟩:=hr (by omega)
 have gk0:=(hc pl hpl).1
 rw [<- kindAt_get hpl,hkd,hp] at gk0
 obtain ⟨out,hout⟩ : ∃ out,ownL had pl = out:=⟨_,rfl⟩
 rw [hout] at hlast hlt hkeys
 have hli : (pl : Int) < had.length:=by omega
 have hkk : keyK p.kind = 8:=by rw [hp]; rfl
 rw [hkk] at hkeys
 clear hop
 obtain ⟨L,hL⟩ : ∃ L,p.last = L:=⟨_,rfl⟩
 rw [hL] at hlast hl
 clear hf ha hr hE hkd hp hL hkk
 unfold evV
 obtain ⟨k,t,u⟩:=x
 simp only at *
 subst hk
 rcases List.eq_nil_or_concat out with rfl | ⟨S,j,hSj⟩
 ·have HO:=Lib.hid hout
  have hL0 : L = 0:=by rw [<- hlast]; rfl
  subst hL0
  clear hout hlast hlt hc hl
  have x0:=hX.c0
  have x1:=hX.c1
  have x2:=hX.c2
  simp only at x0 x1 x2
  go_enter Tryz.func63,Tryz.ntmps63
  go_wp2_with fail
  refine (hF _).mono ?_
  rintro e w1 ⟨rfl,hb1⟩
  rw [HF.out]
  replace hX:=hX.below hb1
  replace hbel:=hbel.trans (hb1.mono hbel.size)
  have z0:=hX.c0
  simp only at z0
  go_wp2_with fail
  refine (at_any _ _ had (hv.below hbel) hn).mono ?_
  rintro e w2 ⟨he,hb2⟩
  rw [atEnd_cons HA.out] at he
  subst he
  replace hX:=hX.below hb2
  replace hbel:=hbel.trans (hb2.mono hbel.size)
  have y0:=hX.c0
  simp only at y0
  clear x0 x1 x2 z0
  go_wp2_with fail
  refine (rown_any _ _ had pl (hv.below hbel) hn hpl).mono ?_
  rintro e w3 ⟨vo,rfl,hrow,hb3⟩
  rw [HO.out] at hrow
  replace hX:=hX.below hb3
  replace hbel:=hbel.trans (hb3.mono hbel.size)
  have u0:=hX.c0
  have u1:=hX.c1
  simp only at u0 u1
  have gk:=(hbel.cell (cell_lt gk0)).trans gk0
  obtain ⟨A1,c1,rfl⟩:=row_shapeL hrow (n:=0) rfl
  go_wp2_with fail
  go_loopw [14,15] (fun n i wr => i = .int .i64 0 /\ n = .int .i64 0 /\ wr = w3) (fun _ _ _ => 0)
  case atStart => exact ⟨rfl,rfl,rfl⟩
  case round =>
   obtain ⟨rfl,rfl,rfl⟩:=hrel
   have hE0 : addE p.keys t.data.toList = 0:=by rw [<- hkeys]; rfl
   have H0:=Lib.hid hE0
   clear hE0
   go_wp2_with fail
   go_ret
   exact ⟨by rw [HE.out,H0.out]; rfl,hbel⟩
 ·rw [List.concat_eq_append] at hSj
  subst hSj
  have HO:=Lib.hid hout
  have hj : j < had.length:=hlt j (by simp)
  rw [lastK_snoc] at hlast
  have gj0:=(hc j hj).1
  rw [<- kindAt_get hj,hlast] at gj0
  have hSl : S.length + 1 <= 100000:=by
   have h1:=(ownT_lt had pl had.length (by omega) (Nat.le_refl _)).2
   rw [ownT_end had pl had.length (Nat.le_refl _)] at h1
   have h2 : (ownL had pl).length <= had.length:=h1
   rw [hout] at h2
   simp at h2
   omega
  have hji : (j : Int) < had.length:=by omega
  clear hout hlast
  have e8:=ne_beq hl
  clear hl
  have x0:=hX.c0
  have x1:=hX.c1
  have x2:=hX.c2
  simp only at x0 x1 x2
  go_enter Tryz.func63,Tryz.ntmps63
  go_wp2_with fail
  refine (hF _).mono ?_
  rintro e w1 ⟨rfl,hb1⟩
  rw [HF.out]
  replace hX:=hX.below hb1
  replace hbel:=hbel.trans (hb1.mono hbel.size)
  have z0:=hX.c0
  simp only at z0
  go_wp2_with fail
  refine (at_any _ _ had (hv.below hbel) hn).mono ?_
  rintro e w2 ⟨he,hb2⟩
  rw [atEnd_cons HA.out] at he
  subst he
  replace hX:=hX.below hb2
  replace hbel:=hbel.trans (hb2.mono hbel.size)
  have y0:=hX.c0
  simp only at y0
  clear x0 x1 x2 z0
  go_wp2_with fail
  refine (rown_any _ _ had pl (hv.below hbel) hn hpl).mono ?_
  rintro e w3 ⟨vo,rfl,hrow,hb3⟩
  rw [HO.out] at hrow
  replace hX:=hX.below hb3
  replace hbel:=hbel.trans (hb3.mono hbel.size)
  have u0:=hX.c0
  have u1:=hX.c1
  simp only at u0 u1
  have gk:=(hbel.cell (cell_lt gk0)).trans gk0
  obtain ⟨A1,c1,rfl⟩:=row_shapeL hrow (n:=S.length + 1) (by simp)
  obtain ⟨r1,rfl⟩:=row_blockL hrow (by simp)
  have hcl : w3.cell? ⟨r1,S.length,none⟩ = some (.int .i64 j):=by
   rw [rowN_cell (rowL_of hrow (n:=S.length + 1) (by simp)) (by omega),nmap_snoc,List.getElem?_append_right (by simp)]
   simp [nV]
  have gj:=(hbel.cell (cell_lt gj0)).trans gj0
  go_wp2_with fail
  have hr1 : ∀ (q : Nat) (hq : q < (S ++ [j]).length),w3.cell? ⟨r1,q,none⟩ = some (.int .i64 ((S ++ [j])[q] : Nat)):=by
   intro q hq
   rw [rowN_cell (rowL_of hrow (n:=S.length + 1) (by simp)) (by simpa using hq),List.getElem?_map,List.getElem?_eq_getElem hq]
   rfl
  have hb3s:=hbel.size
  go_loopw [14,15] (fun n i wr => ∃ q : Nat,q <= S.length + 1 /\ i = .int .i64 q /\ n = .int .i64 (ksT had 8 ((S ++ [j]).take q)).length /\ Hid (Below w3.heap.size w3 wr) /\ Hid (t.data.toList ∉ ksT had 8 ((S ++ [j]).take q))) (fun _ i _ => S.length + 1 - (intOf i).toNat)
  case atStart => exact ⟨0,Nat.zero_le _,rfl,rfl,Lib.hid (Below.refl _ _),Lib.hid (by simp [ksT])⟩
  case round =>
   obtain ⟨q,hq,rfl,rfl,HB,HT⟩:=hrel
   have hXr:=hX.below HB.out
   have v1:=hXr.c1
   simp only at v1
   have hnl:=ksT_len had 8 ((S ++ [j]).take q)
   rw [List.length_take] at hnl
   by_cases hlq : q < S.length + 1
   ·have hqo : q < (S ++ [j]).length:=by simpa using hlq
    have hrq:=(HB.out.cell (cell_lt (hr1 q hqo))).trans (hr1 q hqo)
    have hql : (S ++ [j])[q] < had.length:=hlt _ (List.getElem_mem hqo)
    obtain ⟨b0,b1,_⟩:=hc _ hql
    have hbw:=hbel.trans (HB.out.mono hbel.size)
    have c0:=(hbw.cell (cell_lt b0)).trans b0
    have c1':=(hbw.cell (cell_lt b1)).trans b1
    have hka:=kindAt_get hql
    have hta:=textAt_get hql
    have hqi : (q : Int) < S.length + 1:=by omega
    have hqli : (((S ++ [j])[q] : Nat) : Int) < had.length:=by omega
    by_cases hkk : kindAt had (S ++ [j])[q] = 8
    ·have hyes:=ksT_yes hqo hkk
     have hmem:=ksT_mem hqo hkk
     rw [<- hka,hkk] at c0
     rw [hta] at hyes hmem
     by_cases hte : (had[(S ++ [j])[q]]).t = t
     ·rw [hte] at c1' hmem
      have hE6 : addE p.keys t.data.toList = 6:=by
       unfold addE
       rw [if_pos (by rw [<- hkeys,keysK_ksT,List.mem_reverse]; exact hmem)]
      have H6:=Lib.hid hE6
      clear hE6 hyes hmem hte hka hta hkk b0 b1
      generalize (S ++ [j])[q] = qq at *
      go_wp2_with fail
      go_quiet (fail)
      go_wp2
      go_ret
      exact ⟨by rw [HE.out,H6.out]; rfl,below_drewN hbw _⟩
     ·obtain ⟨n1,n2⟩:=str_diff hte
      have n3 : t.toList = [] -> (had[(S ++ [j])[q]]).t.toList.isEmpty = false:=fun h => by rw [h] at n2; simpa using n2
      have hd : t.data.toList ∉ ksT had 8 ((S ++ [j]).take (q + 1)):=by
       rw [hyes,List.mem_append,not_or]
       exact ⟨HT.out,fun h => by rw [List.mem_singleton] at h; exact hte (ByteArray.ext (by have:=congrArg List.toArray h; simpa using this.symm))⟩
      have HD:=Lib.hid hd
      have hlen : (ksT had 8 ((S ++ [j]).take (q + 1))).length = (ksT had 8 ((S ++ [j]).take q)).length + 1:=by rw [hyes]; simp
      have HL:=Lib.hid hlen
      clear hyes hmem hte hka hta hkk hd hlen b0 b1
      generalize (had[(S ++ [j])[q]]).t = tq at *
      generalize (S ++ [j])[q] = qq at *
      generalize (ksT had 8 ((S ++ [j]).take q)).length = nn at *
      go_wp2_with fail
      go_quiet (fail)
      go_wp2
      go_roundw
      case rel => exact ⟨q + 1,hlq,by go_num,by rw [HL.out]; go_num,Lib.hid (below_drewN HB.out _),HD⟩
      case measure => first | (simp [intOf]; done) | (simp [intOf]; omega)
    ·have hno:=ksT_no hqo hkk
     rw [hka] at hkk
     have ek:=ne_beq hkk
     have HD : Hid (t.data.toList ∉ ksT had 8 ((S ++ [j]).take (q + 1))):=Lib.hid (by rw [hno]; exact HT.out)
     have HL : Hid ((ksT had 8 ((S ++ [j]).take (q + 1))).length = (ksT had 8 ((S ++ [j]).take q)).length):=Lib.hid (by rw [hno])
     clear hno hka hta hkk b0 b1
     generalize (had[(S ++ [j])[q]]).k = kq at *
     generalize (S ++ [j])[q] = qq at *
     generalize (ksT had 8 ((S ++ [j]).take q)).length = nn at *
     go_wp2_with fail
     go_roundw
     case rel => exact ⟨q + 1,hlq,by go_num,by rw [HL.out],HB,HD⟩
     case measure => first | (simp [intOf]; done) | (simp [intOf]; omega)
   ·have hqe : (S ++ [j]).take q = (S ++ [j]):=List.take_of_length_le (by simp; omega)
    have hE0 : addE p.keys t.data.toList = if 10 <= (ksT had 8 ((S ++ [j]).take q)).length then 7 else 0:=by
     unfold addE
     have h1:=HT.out
     rw [hqe] at h1
     rw [<- hkeys,keysK_ksT,if_neg (by rw [List.mem_reverse]; exact h1),List.length_reverse,hqe]
    have hqi : ¬ (q : Int) < S.length + 1:=by omega
    have hbw:=hbel.trans (HB.out.mono hbel.size)
    by_cases h10 : 10 <= (ksT had 8 ((S ++ [j]).take q)).length
    ·rw [if_pos h10] at hE0
     have H0:=Lib.hid hE0
     clear hE0 hqe
     generalize (ksT had 8 ((S ++ [j]).take q)).length = nn at *
     go_wp2_with fail
     go_ret
     exact ⟨by rw [HE.out,H0.out]; rfl,hbw⟩
    ·rw [if_neg h10] at hE0
     have H0:=Lib.hid hE0
     clear hE0 hqe
     generalize (ksT had 8 ((S ++ [j]).take q)).length = nn at *
     go_wp2_with fail
     go_ret
     exact ⟨by rw [HE.out,H0.out]; rfl,hbw⟩
set_option maxHeartbeats 40000000 in
theorem rstep_key10 (w : World) (v : Value) (had : List Ev) (p : Pt) (r : List Pt) (x : Ev) (pl : Nat) (ps : List Nat) (hv : ERead w v had) (hn : had.length <= 100000) (hs : x.t.size <= 1099511627776) (hs2 : x.v.size <= 1099511627776) (hf : formedB x = true)
 (ha : atL had = pl :: ps) (hI : Inner had 0 pl p) (hk : x.k = 11) (hp : p.kind = 10) (hl : p.last = 0 \/ p.last = 11) :
 Calls Tryz.prog 63 #[v,evV x] w (RSPost w (p :: r) x):=by
 obtain ⟨hpl,hkd,hop,_,hlast,hkeys,hlt⟩:=hI
 have hE : stepE (p :: r) x = addE p.keys x.t.data.toList:=by
  rw [stepE_key hf (by omega),if_neg (by rw [hp,hk]; rcases hl with h | h <;> simp [contB,contElem,h])]
 unfold RSPost
 have HE:=Lib.hid hE
 have hF:=fun w' => rightV x w' hs hs2
 have HF:=Lib.hid hf
 have HA:=Lib.hid ha
 have hX:=EvAt.new w x
 have hbel:=(Below.refl w.heap.size w).alloc (Nat.le_refl _) (.cells #[.int .i64 x.k,.string x.t,.string x.v] 67)
 have hv':=hv
 obtain ⟨A,c,rfl,_,_,hr⟩:=hv'
 obtain ⟨bb,oo,rfl,hc⟩:=hr (by omega)
 have gk0:=(hc pl hpl).1
 rw [<- kindAt_get hpl,hkd,hp] at gk0
 obtain ⟨out,hout⟩ : ∃ out,ownL had pl = out:=⟨_,rfl⟩
 rw [hout] at hlast hlt hkeys
 have hli : (pl : Int) < had.length:=by omega
 have hkk : keyK p.kind = 11:=by rw [hp]; rfl
 rw [hkk] at hkeys
 clear hop
 obtain ⟨L,hL⟩ : ∃ L,p.last = L:=⟨_,rfl⟩
 rw [hL] at hlast hl
 clear hf ha hr hE hkd hp hL hkk
 unfold evV
 obtain ⟨k,t,u⟩:=x
 simp only at *
 subst hk
 rcases List.eq_nil_or_concat out with rfl | ⟨S,j,hSj⟩
 ·have HO:=Lib.hid hout
  have hL0 : L = 0:=by rw [<- hlast]; rfl
  subst hL0
  clear hout hlast hlt hc hl
  have x0:=hX.c0
  have x1:=hX.c1
  have x2:=hX.c2
  simp only at x0 x1 x2
  go_enter Tryz.func63,Tryz.ntmps63
  go_wp2_with fail
  refine (hF _).mono ?_
  rintro e w1 ⟨rfl,hb1⟩
  rw [HF.out]
  replace hX:=hX.below hb1
  replace hbel:=hbel.trans (hb1.mono hbel.size)
  have z0:=hX.c0
  simp only at z0
  go_wp2_with fail
  refine (at_any _ _ had (hv.below hbel) hn).mono ?_
  rintro e w2 ⟨he,hb2⟩
  rw [atEnd_cons HA.out] at he
  subst he
  replace hX:=hX.below hb2
  replace hbel:=hbel.trans (hb2.mono hbel.size)
  have y0:=hX.c0
  simp only at y0
  clear x0 x1 x2 z0
  go_wp2_with fail
  refine (rown_any _ _ had pl (hv.below hbel) hn hpl).mono ?_
  rintro e w3 ⟨vo,rfl,hrow,hb3⟩
  rw [HO.out] at hrow
  replace hX:=hX.below hb3
  replace hbel:=hbel.trans (hb3.mono hbel.size)
  have u0:=hX.c0
  have u1:=hX.c1
  simp only at u0 u1
  have gk:=(hbel.cell (cell_lt gk0)).trans gk0
  obtain ⟨A1,c1,rfl⟩:=row_shapeL hrow (n:=0) rfl
  go_wp2_with fail
  go_loopw [14,15] (fun n i wr => i = .int .i64 0 /\ n = .int .i64 0 /\ wr = w3) (fun _ _ _ => 0)
  case atStart => exact ⟨rfl,rfl,rfl⟩
  case round =>
   obtain ⟨rfl,rfl,rfl⟩:=hrel
   have hE0 : addE p.keys t.data.toList = 0:=by rw [<- hkeys]; rfl
   have H0:=Lib.hid hE0
   clear hE0
   go_wp2_with fail
   go_ret
   exact ⟨by rw [HE.out,H0.out]; rfl,hbel⟩
 ·rw [List.concat_eq_append] at hSj
  subst hSj
  have HO:=Lib.hid hout
  have hj : j < had.length:=hlt j (by simp)
  rw [lastK_snoc] at hlast
  have gj0:=(hc j hj).1
  rw [<- kindAt_get hj,hlast] at gj0
  have hSl : S.length + 1 <= 100000:=by
   have h1:=(ownT_lt had pl had.length (by omega) (Nat.le_refl _)).2
   rw [ownT_end had pl had.length (Nat.le_refl _)] at h1
   have h2 : (ownL had pl).length <= had.length:=h1
   rw [hout] at h2
   simp at h2
   omega
  have hji : (j : Int) < had.length:=by omega
  clear hout hlast
  rcases hl with rfl | rfl
  all_goals
   have x0:=hX.c0
   have x1:=hX.c1
   have x2:=hX.c2
   simp only at x0 x1 x2
   go_enter Tryz.func63,Tryz.ntmps63
   go_wp2_with fail
   refine (hF _).mono ?_
   rintro e w1 ⟨rfl,hb1⟩
   rw [HF.out]
   replace hX:=hX.below hb1
   replace hbel:=hbel.trans (hb1.mono hbel.size)
   have z0:=hX.c0
   simp only at z0
   go_wp2_with fail
   refine (at_any _ _ had (hv.below hbel) hn).mono ?_
   rintro e w2 ⟨he,hb2⟩
   rw [atEnd_cons HA.out] at he
   subst he
   replace hX:=hX.below hb2
   replace hbel:=hbel.trans (hb2.mono hbel.size)
   have y0:=hX.c0
   simp only at y0
   clear x0 x1 x2 z0
   go_wp2_with fail
   refine (rown_any _ _ had pl (hv.below hbel) hn hpl).mono ?_
   rintro e w3 ⟨vo,rfl,hrow,hb3⟩
   rw [HO.out] at hrow
   replace hX:=hX.below hb3
   replace hbel:=hbel.trans (hb3.mono hbel.size)
   have u0:=hX.c0
   have u1:=hX.c1
   simp only at u0 u1
   have gk:=(hbel.cell (cell_lt gk0)).trans gk0
   obtain ⟨A1,c1,rfl⟩:=row_shapeL hrow (n:=S.length + 1) (by simp)
   obtain ⟨r1,rfl⟩:=row_blockL hrow (by simp)
   have hcl : w3.cell? ⟨r1,S.length,none⟩ = some (.int .i64 j):=by
    rw [rowN_cell (rowL_of hrow (n:=S.length + 1) (by simp)) (by omega),nmap_snoc,List.getElem?_append_right (by simp)]
    simp [nV]
   have gj:=(hbel.cell (cell_lt gj0)).trans gj0
   go_wp2_with fail
   have hr1 : ∀ (q : Nat) (hq : q < (S ++ [j]).length),w3.cell? ⟨r1,q,none⟩ = some (.int .i64 ((S ++ [j])[q] : Nat)):=by
    intro q hq
    rw [rowN_cell (rowL_of hrow (n:=S.length + 1) (by simp)) (by simpa using hq),List.getElem?_map,List.getElem?_eq_getElem hq]
    rfl
   have hb3s:=hbel.size
   go_loopw [14,15] (fun n i wr => ∃ q : Nat,q <= S.length + 1 /\ i = .int .i64 q /\ n = .int .i64 (ksT had 11 ((S ++ [j]).take q)).length /\ Hid (Below w3.heap.size w3 wr) /\ Hid (t.data.toList ∉ ksT had 11 ((S ++ [j]).take q))) (fun _ i _ => S.length + 1 - (intOf i).toNat)
   case atStart => exact ⟨0,Nat.zero_le _,rfl,rfl,Lib.hid (Below.refl _ _),Lib.hid (by simp [ksT])⟩
   case round =>
    obtain ⟨q,hq,rfl,rfl,HB,HT⟩:=hrel
    have hXr:=hX.below HB.out
    have v1:=hXr.c1
    simp only at v1
    have hnl:=ksT_len had 11 ((S ++ [j]).take q)
    rw [List.length_take] at hnl
    by_cases hlq : q < S.length + 1
    ·have hqo : q < (S ++ [j]).length:=by simpa using hlq
     have hrq:=(HB.out.cell (cell_lt (hr1 q hqo))).trans (hr1 q hqo)
     have hql : (S ++ [j])[q] < had.length:=hlt _ (List.getElem_mem hqo)
     obtain ⟨b0,b1,_⟩:=hc _ hql
     have hbw:=hbel.trans (HB.out.mono hbel.size)
     have c0:=(hbw.cell (cell_lt b0)).trans b0
     have c1':=(hbw.cell (cell_lt b1)).trans b1
     have hka:=kindAt_get hql
     have hta:=textAt_get hql
     have hqi : (q : Int) < S.length + 1:=by omega
     have hqli : (((S ++ [j])[q] : Nat) : Int) < had.length:=by omega
     by_cases hkk : kindAt had (S ++ [j])[q] = 11
     ·have hyes:=ksT_yes hqo hkk
      have hmem:=ksT_mem hqo hkk
      rw [<- hka,hkk] at c0
      rw [hta] at hyes hmem
      by_cases hte : (had[(S ++ [j])[q]]).t = t
      ·rw [hte] at c1' hmem
       have hE6 : addE p.keys t.data.toList = 6:=by
        unfold addE
        rw [if_pos (by rw [<- hkeys,keysK_ksT,List.mem_reverse]; exact hmem)]
       have H6:=Lib.hid hE6
       clear hE6 hyes hmem hte hka hta hkk b0 b1
       generalize (S ++ [j])[q] = qq at *
       go_wp2_with fail
       go_quiet (fail)
       go_wp2
       go_ret
       exact ⟨by rw [HE.out,H6.out]; rfl,below_drewN hbw _⟩
      ·obtain ⟨n1,n2⟩:=str_diff hte
       have n3 : t.toList = [] -> (had[(S ++ [j])[q]]).t.toList.isEmpty = false:=fun h => by rw [h] at n2; simpa using n2
       have hd : t.data.toList ∉ ksT had 11 ((S ++ [j]).take (q + 1)):=by
        rw [hyes,List.mem_append,not_or]
        exact ⟨HT.out,fun h => by rw [List.mem_singleton] at h; exact hte (ByteArray.ext (by have:=congrArg List.toArray h; simpa using this.symm))⟩
       have HD:=Lib.hid hd
       have hlen : (ksT had 11 ((S ++ [j]).take (q + 1))).length = (ksT had 11 ((S ++ [j]).take q)).length + 1:=by rw [hyes]; simp
       have HL:=Lib.hid hlen
       clear hyes hmem hte hka hta hkk hd hlen b0 b1
       generalize (had[(S ++ [j])[q]]).t = tq at *
       generalize (S ++ [j])[q] = qq at *
       generalize (ksT had 11 ((S ++ [j]).take q)).length = nn at *
       go_wp2_with fail
       go_quiet (fail)
       go_wp2
       go_roundw
       case rel => exact ⟨q + 1,hlq,by go_num,by rw [HL.out]; go_num,Lib.hid (below_drewN HB.out _),HD⟩
       case measure => first | (simp [intOf]; done) | (simp [intOf]; omega)
     ·have hno:=ksT_no hqo hkk
      rw [hka] at hkk
      have ek:=ne_beq hkk
      have HD : Hid (t.data.toList ∉ ksT had 11 ((S ++ [j]).take (q + 1))):=Lib.hid (by rw [hno]; exact HT.out)
      have HL : Hid ((ksT had 11 ((S ++ [j]).take (q + 1))).length = (ksT had 11 ((S ++ [j]).take q)).length):=Lib.hid (by rw [hno])
      clear hno hka hta hkk b0 b1
      generalize (had[(S ++ [j])[q]]).k = kq at *
      generalize (S ++ [j])[q] = qq at *
      generalize (ksT had 11 ((S ++ [j]).take q)).length = nn at *
      go_wp2_with fail
      go_roundw
      case rel => exact ⟨q + 1,hlq,by go_num,by rw [HL.out],HB,HD⟩
      case measure => first | (simp [intOf]; done) | (simp [intOf]; omega)
    ·have hqe : (S ++ [j]).take q = (S ++ [j]):=List.take_of_length_le (by simp; omega)
     have hE0 : addE p.keys t.data.toList = if 10 <= (ksT had 11 ((S ++ [j]).take q)).length then 7 else 0:=by
      unfold addE
      have h1:=HT.out
      rw [hqe] at h1
      rw [<- hkeys,keysK_ksT,if_neg (by rw [List.mem_reverse]; exact h1),List.length_reverse,hqe]
     have hqi : ¬ (q : Int) < S.length + 1:=by omega
     have hbw:=hbel.trans (HB.out.mono hbel.size)
     by_cases h10 : 10 <= (ksT had 11 ((S ++ [j]).take q)).length
     ·rw [if_pos h10] at hE0
      have H0:=Lib.hid hE0
      clear hE0 hqe
      generalize (ksT had 11 ((S ++ [j]).take q)).length = nn at *
      go_wp2_with fail
      go_ret
      exact ⟨by rw [HE.out,H0.out]; rfl,hbw⟩
     ·rw [if_neg h10] at hE0
      have H0:=Lib.hid hE0
      clear hE0 hqe
      generalize (ksT had 11 ((S ++ [j]).take q)).length = nn at *
      go_wp2_with fail
      go_ret
      exact ⟨by rw [HE.out,H0.out]; rfl,hbw⟩
end Go.Proofs.YtbnppjmmlfncmaaGreatDoor
