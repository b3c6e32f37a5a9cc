/-
  The reference's Step (hexaplaref05) where a key, or an attribute, may stand: whether it stands twice, and how many there are.
  The reference's Step and Whole (hexaplaref05): the machine's answers.
-/
import Derived.Test.YtbnppjmmlfncmaaGreatDoorIrA30
import Derived.Test.YtbnppjmmlfncmaaGreatDoorIrA27
import Derived.Test.YtbnppjmmlfncmaaGreatDoorIrA28
import Derived.Test.YtbnppjmmlfncmaaGreatDoorIrA29
import Derived.StillTailTactics
set_option maxRecDepth 100000
set_option linter.unusedSectionVars false
namespace Go.Proofs.YtbnppjmmlfncmaaGreatDoor
open Go.RowKit
variable [Fo]
def ksT (l : List Ev) (k : Int) (out : List Nat) : List (List UInt8):=(out.filter fun i => decide (kindAt l i = k)).map (textAt l)
theorem keysK_ksT (l : List Ev) (k : Int) (out : List Nat) : keysK l k out = (ksT l k out).reverse:=rfl
theorem ksT_len (l : List Ev) (k : Int) (out : List Nat) : (ksT l k out).length <= out.length:=by
 unfold ksT; rw [List.length_map]; exact List.length_filter_le _ _
theorem ksT_yes {l : List Ev} {k : Int} {out : List Nat} {j : Nat} (hj : j < out.length) (h : kindAt l out[j] = k) : ksT l k (out.take (j + 1)) = ksT l k (out.take j) ++ [textAt l out[j]]:=by
 unfold ksT; rw [List.take_succ_eq_append_getElem hj,List.filter_append,List.map_append]; simp [h]
theorem ksT_no {l : List Ev} {k : Int} {out : List Nat} {j : Nat} (hj : j < out.length) (h : ¬ kindAt l out[j] = k) : ksT l k (out.take (j + 1)) = ksT l k (out.take j):=by
 unfold ksT; rw [List.take_succ_eq_append_getElem hj,List.filter_append,List.map_append]; simp [h]
theorem ksT_mem {l : List Ev} {k : Int} {out : List Nat} {j : Nat} (hj : j < out.length) (h : kindAt l out[j] = k) : textAt l out[j] ∈ ksT l k out :=
 List.mem_map.2 ⟨out[j],List.mem_filter.2 ⟨List.getElem_mem hj,decide_eq_true h⟩,rfl⟩
set_option maxHeartbeats 40000000 in
theorem rstep_key7 (w : World) (v : Value) (had : List Ev) (p : Pt) (r : List Pt) (x : Ev) (pl : Nat) (ps : List Nat) (hv : ERead w v had) (hn : had.length <= 100000) (hs : x.t.size <= 1099511627776) (hs2 : x.v.size <= 1099511627776) (hf : formedB x = true)
 (ha : atL had = pl :: ps) (hI : Inner had 0 pl p) (hk : x.k = 8) (hp : p.kind = 7) (hl : p.last ≠ 8) :
 Calls Tryz.prog 63 #[v,evV x] w (RSPost w (p :: r) x):=by
 obtain ⟨hpl,hkd,hop,_,hlast,hkeys,hlt⟩:=hI
 have hE : stepE (p :: r) x = addE p.keys x.t.data.toList:=by
  rw [stepE_key hf (by omega),if_neg (by rw [hp,hk]; simp [contB,hl])]
 unfold RSPost
 have HE:=Lib.hid hE
 have hF:=fun w' => rightV x w' hs hs2
 have HF:=Lib.hid hf
 have HA:=Lib.hid ha
 have hX:=EvAt.new w x
 have hbel:=(Below.refl w.heap.size w).alloc (Nat.le_refl _) (.cells #[.int .i64 x.k,.string x.t,.string x.v] 67)
 have hv':=hv
 obtain ⟨A,c,rfl,_,_,hr⟩:=hv'
 obtain ⟨bb,oo,rfl,hc⟩:=hr (by omega)
 have gk0:=(hc pl hpl).1
 rw [<- kindAt_get hpl,hkd,hp] at gk0
 obtain ⟨out,hout⟩ : ∃ out,ownL had pl = out:=⟨_,rfl⟩
 rw [hout] at hlast hlt hkeys
 have hli : (pl : Int) < had.length:=by omega
 have hkk : keyK p.kind = 8:=by rw [hp]; rfl
 rw [hkk] at hkeys
 clear hop
 obtain ⟨L,hL⟩ : ∃ L,p.last = L:=⟨_,rfl⟩
 rw [hL] at hlast hl
 clear hf ha hr hE hkd hp hL hkk
 unfold evV
 obtain ⟨k,t,u⟩:=x
 simp only at *
 subst hk
 rcases List.eq_nil_or_concat out with rfl | ⟨S,j,hSj⟩
 ·have HO:=Lib.hid hout
  have hL0 : L = 0:=by rw [<- hlast]; rfl
  subst hL0
  clear hout hlast hlt hc hl
  have x0:=hX.c0
  have x1:=hX.c1
  have x2:=hX.c2
  simp only at x0 x1 x2
  go_enter Tryz.func63,Tryz.ntmps63
  go_wp2_with fail
  refine (hF _).mono ?_
  rintro e w1 ⟨rfl,hb1⟩
  rw [HF.out]
  replace hX:=hX.below hb1
  replace hbel:=hbel.trans (hb1.mono hbel.size)
  have z0:=hX.c0
  simp only at z0
  go_wp2_with fail
  refine (at_any _ _ had (hv.below hbel) hn).mono ?_
  rintro e w2 ⟨he,hb2⟩
  rw [atEnd_cons HA.out] at he
  subst he
  replace hX:=hX.below hb2
  replace hbel:=hbel.trans (hb2.mono hbel.size)
  have y0:=hX.c0
  simp only at y0
  clear x0 x1 x2 z0
  go_wp2_with fail
  refine (rown_any _ _ had pl (hv.below hbel) hn hpl).mono ?_
  rintro e w3 ⟨vo,rfl,hrow,hb3⟩
  rw [HO.out] at hrow
  replace hX:=hX.below hb3
  replace hbel:=hbel.trans (hb3.mono hbel.size)
  have u0:=hX.c0
  have u1:=hX.c1
  simp only at u0 u1
  have gk:=(hbel.cell (cell_lt gk0)).trans gk0
  obtain ⟨A1,c1,rfl⟩:=row_shapeL hrow (n:=0) rfl
  go_wp2_with fail
  go_loopw [14,15] (fun n i wr => i = .int .i64 0 /\ n = .int .i64 0 /\ wr = w3) (fun _ _ _ => 0)
  case atStart => exact ⟨rfl,rfl,rfl⟩
  case round =>
   obtain ⟨rfl,rfl,rfl⟩:=hrel
   have hE0 : addE p.keys t.data.toList = 0:=by rw [<- hkeys]; rfl
   have H0:=Lib.hid hE0
   clear hE0
   go_wp2_with fail
   go_ret
   exact ⟨by rw [HE.out,H0.out]; rfl,hbel⟩
 ·rw [List.concat_eq_append] at hSj
  subst hSj
  have HO:=Lib.hid hout
  have hj : j < had.length:=hlt j (by simp)
  rw [lastK_snoc] at hlast
  have gj0:=(hc j hj).1
  rw [<- kindAt_get hj,hlast] at gj0
  have hSl : S.length + 1 <= 100000:=by
   have h1:=(ownT_lt had pl had.length (by omega) (Nat.le_refl _)).2
   rw [ownT_end had pl had.length (Nat.le_refl _)] at h1
   have h2 : (ownL had pl).length <= had.length:=h1
   rw [hout] at h2
   simp at h2
   omega
  have hji : (j : Int) < had.length:=by omega
  clear hout hlast
  have e8:=ne_beq hl
  clear hl
  have x0:=hX.c0
  have x1:=hX.c1
  have x2:=hX.c2
  simp only at x0 x1 x2
  go_enter Tryz.func63,Tryz.ntmps63
  go_wp2_with fail
  refine (hF _).mono ?_
  rintro e w1 ⟨rfl,hb1⟩
  rw [HF.out]
  replace hX:=hX.below hb1
  replace hbel:=hbel.trans (hb1.mono hbel.size)
  have z0:=hX.c0
  simp only at z0
  go_wp2_with fail
  refine (at_any _ _ had (hv.below hbel) hn).mono ?_
  rintro e w2 ⟨he,hb2⟩
  rw [atEnd_cons HA.out] at he
  subst he
  replace hX:=hX.below hb2
  replace hbel:=hbel.trans (hb2.mono hbel.size)
  have y0:=hX.c0
  simp only at y0
  clear x0 x1 x2 z0
  go_wp2_with fail
  refine (rown_any _ _ had pl (hv.below hbel) hn hpl).mono ?_
  rintro e w3 ⟨vo,rfl,hrow,hb3⟩
  rw [HO.out] at hrow
  replace hX:=hX.below hb3
  replace hbel:=hbel.trans (hb3.mono hbel.size)
  have u0:=hX.c0
  have u1:=hX.c1
  simp only at u0 u1
  have gk:=(hbel.cell (cell_lt gk0)).trans gk0
  obtain ⟨A1,c1,rfl⟩:=row_shapeL hrow (n:=S.length + 1) (by simp)
  obtain ⟨r1,rfl⟩:=row_blockL hrow (by simp)
  have hcl : w3.cell? ⟨r1,S.length,none⟩ = some (.int .i64 j):=by
   rw [rowN_cell (rowL_of hrow (n:=S.length + 1) (by simp)) (by omega),nmap_snoc,List.getElem?_append_right (by simp)]
   simp [nV]
  have gj:=(hbel.cell (cell_lt gj0)).trans gj0
  go_wp2_with fail
  have hr1 : ∀ (q : Nat) (hq : q < (S ++ [j]).length),w3.cell? ⟨r1,q,none⟩ = some (.int .i64 ((S ++ [j])[q] : Nat)):=by
   intro q hq
   rw [rowN_cell (rowL_of hrow (n:=S.length + 1) (by simp)) (by simpa using hq),List.getElem?_map,List.getElem?_eq_getElem hq]
   rfl
  have hb3s:=hbel.size
  go_loopw [14,15] (fun n i wr => ∃ q : Nat,q <= S.length + 1 /\ i = .int .i64 q /\ n = .int .i64 (ksT had 8 ((S ++ [j]).take q)).length /\ Hid (Below w3.heap.size w3 wr) /\ Hid (t.data.toList ∉ ksT had 8 ((S ++ [j]).take q))) (fun _ i _ => S.length + 1 - (intOf i).toNat)
  case atStart => exact ⟨0,Nat.zero_le _,rfl,rfl,Lib.hid (Below.refl _ _),Lib.hid (by simp [ksT])⟩
  case round =>
   obtain ⟨q,hq,rfl,rfl,HB,HT⟩:=hrel
   have hXr:=hX.below HB.out
   have v1:=hXr.c1
   simp only at v1
   have hnl:=ksT_len had 8 ((S ++ [j]).take q)
   rw [List.length_take] at hnl
   by_cases hlq : q < S.length + 1
   ·have hqo : q < (S ++ [j]).length:=by simpa using hlq
    have hrq:=(HB.out.cell (cell_lt (hr1 q hqo))).trans (hr1 q hqo)
    have hql : (S ++ [j])[q] < had.length:=hlt _ (List.getElem_mem hqo)
    obtain ⟨b0,b1,_⟩:=hc _ hql
    have hbw:=hbel.trans (HB.out.mono hbel.size)
    have c0:=(hbw.cell (cell_lt b0)).trans b0
    have c1':=(hbw.cell (cell_lt b1)).trans b1
    have hka:=kindAt_get hql
    have hta:=textAt_get hql
    have hqi : (q : Int) < S.length + 1:=by omega
    have hqli : (((S ++ [j])[q] : Nat) : Int) < had.length:=by omega
    by_cases hkk : kindAt had (S ++ [j])[q] = 8
    ·have hyes:=ksT_yes hqo hkk
     have hmem:=ksT_mem hqo hkk
     rw [<- hka,hkk] at c0
     rw [hta] at hyes hmem
     by_cases hte : (had[(S ++ [j])[q]]).t = t
     ·rw [hte] at c1' hmem
      have hE6 : addE p.keys t.data.toList = 6:=by
       unfold addE
       rw [if_pos (by rw [<- hkeys,keysK_ksT,List.mem_reverse]; exact hmem)]
      have H6:=Lib.hid hE6
      clear hE6 hyes hmem hte hka hta hkk b0 b1
      generalize (S ++ [j])[q] = qq at *
      go_wp2_with fail
      go_quiet (fail)
      go_wp2
      go_ret
      exact ⟨by rw [HE.out,H6.out]; rfl,below_drewN hbw _⟩
     ·obtain ⟨n1,n2⟩:=str_diff hte
      have n3 : t.toList = [] -> (had[(S ++ [j])[q]]).t.toList.isEmpty = false:=fun h => by rw [h] at n2; simpa using n2
      have hd : t.data.toList ∉ ksT had 8 ((S ++ [j]).take (q + 1)):=by
       rw [hyes,List.mem_append,not_or]
       exact ⟨HT.out,fun h => by rw [List.mem_singleton] at h; exact hte (ByteArray.ext (by have:=congrArg List.toArray h; simpa using this.symm))⟩
      have HD:=Lib.hid hd
      have hlen : (ksT had 8 ((S ++ [j]).take (q + 1))).length = (ksT had 8 ((S ++ [j]).take q)).length + 1:=by rw [hyes]; simp
      have HL:=Lib.hid hlen
      clear hyes hmem hte hka hta hkk hd hlen b0 b1
      generalize (had[(S ++ [j])[q]]).t = tq at *
      generalize (S ++ [j])[q] = qq at *
      generalize (ksT had 8 ((S ++ [j]).take q)).length = nn at *
      go_wp2_with fail
      go_quiet (fail)
      go_wp2
      go_roundw
      case rel => exact ⟨q + 1,hlq,by go_num,by rw [HL.out]; go_num,Lib.hid (below_drewN HB.out _),HD⟩
      case measure => first | (simp [intOf]; done) | (simp [intOf]; omega)
    ·have hno:=ksT_no hqo hkk
     rw [hka] at hkk
     have ek:=ne_beq hkk
     have HD : Hid (t.data.toList ∉ ksT had 8 ((S ++ [j]).take (q + 1))):=Lib.hid (by rw [hno]; exact HT.out)
     have HL : Hid ((ksT had 8 ((S ++ [j]).take (q + 1))).length = (ksT had 8 ((S ++ [j]).take q)).length):=Lib.hid (by rw [hno])
     clear hno hka hta hkk b0 b1
     generalize (had[(S ++ [j])[q]]).k = kq at *
     generalize (S ++ [j])[q] = qq at *
     generalize (ksT had 8 ((S ++ [j]).take q)).length = nn at *
     go_wp2_with fail
     go_roundw
     case rel => exact ⟨q + 1,hlq,by go_num,by rw [HL.out],HB,HD⟩
     case measure => first | (simp [intOf]; done) | (simp [intOf]; omega)
   ·have hqe : (S ++ [j]).take q = (S ++ [j]):=List.take_of_length_le (by simp; omega)
    have hE0 : addE p.keys t.data.toList = if 10 <= (ksT had 8 ((S ++ [j]).take q)).length then 7 else 0:=by
     unfold addE
     have h1:=HT.out
     rw [hqe] at h1
     rw [<- hkeys,keysK_ksT,if_neg (by rw [List.mem_reverse]; exact h1),List.length_reverse,hqe]
    have hqi : ¬ (q : Int) < S.length + 1:=by omega
    have hbw:=hbel.trans (HB.out.mono hbel.size)
    by_cases h10 : 10 <= (ksT had 8 ((S ++ [j]).take q)).length
    ·rw [if_pos h10] at hE0
     have H0:=Lib.hid hE0
     clear hE0 hqe
     generalize (ksT had 8 ((S ++ [j]).take q)).length = nn at *
     go_wp2_with fail
     go_ret
     exact ⟨by rw [HE.out,H0.out]; rfl,hbw⟩
    ·rw [if_neg h10] at hE0
     have H0:=Lib.hid hE0
     clear hE0 hqe
     generalize (ksT had 8 ((S ++ [j]).take q)).length = nn at *
     go_wp2_with fail
     go_ret
     exact ⟨by rw [HE.out,H0.out]; rfl,hbw⟩
set_option maxHeartbeats 40000000 in
theorem rstep_key10 (w : World) (v : Value) (had : List Ev) (p : Pt) (r : List Pt) (x : Ev) (pl : Nat) (ps : List Nat) (hv : ERead w v had) (hn : had.length <= 100000) (hs : x.t.size <= 1099511627776) (hs2 : x.v.size <= 1099511627776) (hf : formedB x = true)
 (ha : atL had = pl :: ps) (hI : Inner had 0 pl p) (hk : x.k = 11) (hp : p.kind = 10) (hl : p.last = 0 \/ p.last = 11) :
 Calls Tryz.prog 63 #[v,evV x] w (RSPost w (p :: r) x):=by
 obtain ⟨hpl,hkd,hop,_,hlast,hkeys,hlt⟩:=hI
 have hE : stepE (p :: r) x = addE p.keys x.t.data.toList:=by
  rw [stepE_key hf (by omega),if_neg (by rw [hp,hk]; rcases hl with h | h <;> simp [contB,contElem,h])]
 unfold RSPost
 have HE:=Lib.hid hE
 have hF:=fun w' => rightV x w' hs hs2
 have HF:=Lib.hid hf
 have HA:=Lib.hid ha
 have hX:=EvAt.new w x
 have hbel:=(Below.refl w.heap.size w).alloc (Nat.le_refl _) (.cells #[.int .i64 x.k,.string x.t,.string x.v] 67)
 have hv':=hv
 obtain ⟨A,c,rfl,_,_,hr⟩:=hv'
 obtain ⟨bb,oo,rfl,hc⟩:=hr (by omega)
 have gk0:=(hc pl hpl).1
 rw [<- kindAt_get hpl,hkd,hp] at gk0
 obtain ⟨out,hout⟩ : ∃ out,ownL had pl = out:=⟨_,rfl⟩
 rw [hout] at hlast hlt hkeys
 have hli : (pl : Int) < had.length:=by omega
 have hkk : keyK p.kind = 11:=by rw [hp]; rfl
 rw [hkk] at hkeys
 clear hop
 obtain ⟨L,hL⟩ : ∃ L,p.last = L:=⟨_,rfl⟩
 rw [hL] at hlast hl
 clear hf ha hr hE hkd hp hL hkk
 unfold evV
 obtain ⟨k,t,u⟩:=x
 simp only at *
 subst hk
 rcases List.eq_nil_or_concat out with rfl | ⟨S,j,hSj⟩
 ·have HO:=Lib.hid hout
  have hL0 : L = 0:=by rw [<- hlast]; rfl
  subst hL0
  clear hout hlast hlt hc hl
  have x0:=hX.c0
  have x1:=hX.c1
  have x2:=hX.c2
  simp only at x0 x1 x2
  go_enter Tryz.func63,Tryz.ntmps63
  go_wp2_with fail
  refine (hF _).mono ?_
  rintro e w1 ⟨rfl,hb1⟩
  rw [HF.out]
  replace hX:=hX.below hb1
  replace hbel:=hbel.trans (hb1.mono hbel.size)
  have z0:=hX.c0
  simp only at z0
  go_wp2_with fail
  refine (at_any _ _ had (hv.below hbel) hn).mono ?_
  rintro e w2 ⟨he,hb2⟩
  rw [atEnd_cons HA.out] at he
  subst he
  replace hX:=hX.below hb2
  replace hbel:=hbel.trans (hb2.mono hbel.size)
  have y0:=hX.c0
  simp only at y0
  clear x0 x1 x2 z0
  go_wp2_with fail
  refine (rown_any _ _ had pl (hv.below hbel) hn hpl).mono ?_
  rintro e w3 ⟨vo,rfl,hrow,hb3⟩
  rw [HO.out] at hrow
  replace hX:=hX.below hb3
  replace hbel:=hbel.trans (hb3.mono hbel.size)
  have u0:=hX.c0
  have u1:=hX.c1
  simp only at u0 u1
  have gk:=(hbel.cell (cell_lt gk0)).trans gk0
  obtain ⟨A1,c1,rfl⟩:=row_shapeL hrow (n:=0) rfl
  go_wp2_with fail
  go_loopw [14,15] (fun n i wr => i = .int .i64 0 /\ n = .int .i64 0 /\ wr = w3) (fun _ _ _ => 0)
  case atStart => exact ⟨rfl,rfl,rfl⟩
  case round =>
   obtain ⟨rfl,rfl,rfl⟩:=hrel
   have hE0 : addE p.keys t.data.toList = 0:=by rw [<- hkeys]; rfl
   have H0:=Lib.hid hE0
   clear hE0
   go_wp2_with fail
   go_ret
   exact ⟨by rw [HE.out,H0.out]; rfl,hbel⟩
 ·rw [List.concat_eq_append] at hSj
  subst hSj
  have HO:=Lib.hid hout
  have hj : j < had.length:=hlt j (by simp)
  rw [lastK_snoc] at hlast
  have gj0:=(hc j hj).1
  rw [<- kindAt_get hj,hlast] at gj0
  have hSl : S.length + 1 <= 100000:=by
   have h1:=(ownT_lt had pl had.length (by omega) (Nat.le_refl _)).2
   rw [ownT_end had pl had.length (Nat.le_refl _)] at h1
   have h2 : (ownL had pl).length <= had.length:=h1
   rw [hout] at h2
   simp at h2
   omega
  have hji : (j : Int) < had.length:=by omega
  clear hout hlast
  rcases hl with rfl | rfl
  all_goals
   have x0:=hX.c0
   have x1:=hX.c1
   have x2:=hX.c2
   simp only at x0 x1 x2
   go_enter Tryz.func63,Tryz.ntmps63
   go_wp2_with fail
   refine (hF _).mono ?_
   rintro e w1 ⟨rfl,hb1⟩
   rw [HF.out]
   replace hX:=hX.below hb1
   replace hbel:=hbel.trans (hb1.mono hbel.size)
   have z0:=hX.c0
   simp only at z0
   go_wp2_with fail
   refine (at_any _ _ had (hv.below hbel) hn).mono ?_
   rintro e w2 ⟨he,hb2⟩
   rw [atEnd_cons HA.out] at he
   subst he
   replace hX:=hX.below hb2
   replace hbel:=hbel.trans (hb2.mono hbel.size)
   have y0:=hX.c0
   simp only at y0
   clear x0 x1 x2 z0
   go_wp2_with fail
   refine (rown_any _ _ had pl (hv.below hbel) hn hpl).mono ?_
   rintro e w3 ⟨vo,rfl,hrow,hb3⟩
   rw [HO.out] at hrow
   replace hX:=hX.below hb3
   replace hbel:=hbel.trans (hb3.mono hbel.size)
   have u0:=hX.c0
   have u1:=hX.c1
   simp only at u0 u1
   have gk:=(hbel.cell (cell_lt gk0)).trans gk0
   obtain ⟨A1,c1,rfl⟩:=row_shapeL hrow (n:=S.length + 1) (by simp)
   obtain ⟨r1,rfl⟩:=row_blockL hrow (by simp)
   have hcl : w3.cell? ⟨r1,S.length,none⟩ = some (.int .i64 j):=by
    rw [rowN_cell (rowL_of hrow (n:=S.length + 1) (by simp)) (by omega),nmap_snoc,List.getElem?_append_right (by simp)]
    simp [nV]
   have gj:=(hbel.cell (cell_lt gj0)).trans gj0
   go_wp2_with fail
   have hr1 : ∀ (q : Nat) (hq : q < (S ++ [j]).length),w3.cell? ⟨r1,q,none⟩ = some (.int .i64 ((S ++ [j])[q] : Nat)):=by
    intro q hq
    rw [rowN_cell (rowL_of hrow (n:=S.length + 1) (by simp)) (by simpa using hq),List.getElem?_map,List.getElem?_eq_getElem hq]
    rfl
   have hb3s:=hbel.size
   go_loopw [14,15] (fun n i wr => ∃ q : Nat,q <= S.length + 1 /\ i = .int .i64 q /\ n = .int .i64 (ksT had 11 ((S ++ [j]).take q)).length /\ Hid (Below w3.heap.size w3 wr) /\ Hid (t.data.toList ∉ ksT had 11 ((S ++ [j]).take q))) (fun _ i _ => S.length + 1 - (intOf i).toNat)
   case atStart => exact ⟨0,Nat.zero_le _,rfl,rfl,Lib.hid (Below.refl _ _),Lib.hid (by simp [ksT])⟩
   case round =>
    obtain ⟨q,hq,rfl,rfl,HB,HT⟩:=hrel
    have hXr:=hX.below HB.out
    have v1:=hXr.c1
    simp only at v1
    have hnl:=ksT_len had 11 ((S ++ [j]).take q)
    rw [List.length_take] at hnl
    by_cases hlq : q < S.length + 1
    ·have hqo : q < (S ++ [j]).length:=by simpa using hlq
     have hrq:=(HB.out.cell (cell_lt (hr1 q hqo))).trans (hr1 q hqo)
     have hql : (S ++ [j])[q] < had.length:=hlt _ (List.getElem_mem hqo)
     obtain ⟨b0,b1,_⟩:=hc _ hql
     have hbw:=hbel.trans (HB.out.mono hbel.size)
     have c0:=(hbw.cell (cell_lt b0)).trans b0
     have c1':=(hbw.cell (cell_lt b1)).trans b1
     have hka:=kindAt_get hql
     have hta:=textAt_get hql
     have hqi : (q : Int) < S.length + 1:=by omega
     have hqli : (((S ++ [j])[q] : Nat) : Int) < had.length:=by omega
     by_cases hkk : kindAt had (S ++ [j])[q] = 11
     ·have hyes:=ksT_yes hqo hkk
      have hmem:=ksT_mem hqo hkk
      rw [<- hka,hkk] at c0
      rw [hta] at hyes hmem
      by_cases hte : (had[(S ++ [j])[q]]).t = t
      ·rw [hte] at c1' hmem
       have hE6 : addE p.keys t.data.toList = 6:=by
        unfold addE
        rw [if_pos (by rw [<- hkeys,keysK_ksT,List.mem_reverse]; exact hmem)]
       have H6:=Lib.hid hE6
       clear hE6 hyes hmem hte hka hta hkk b0 b1
       generalize (S ++ [j])[q] = qq at *
       go_wp2_with fail
       go_quiet (fail)
       go_wp2
       go_ret
       exact ⟨by rw [HE.out,H6.out]; rfl,below_drewN hbw _⟩
      ·obtain ⟨n1,n2⟩:=str_diff hte
       have n3 : t.toList = [] -> (had[(S ++ [j])[q]]).t.toList.isEmpty = false:=fun h => by rw [h] at n2; simpa using n2
       have hd : t.data.toList ∉ ksT had 11 ((S ++ [j]).take (q + 1)):=by
        rw [hyes,List.mem_append,not_or]
        exact ⟨HT.out,fun h => by rw [List.mem_singleton] at h; exact hte (ByteArray.ext (by have:=congrArg List.toArray h; simpa using this.symm))⟩
       have HD:=Lib.hid hd
       have hlen : (ksT had 11 ((S ++ [j]).take (q + 1))).length = (ksT had 11 ((S ++ [j]).take q)).length + 1:=by rw [hyes]; simp
       have HL:=Lib.hid hlen
       clear hyes hmem hte hka hta hkk hd hlen b0 b1
       generalize (had[(S ++ [j])[q]]).t = tq at *
       generalize (S ++ [j])[q] = qq at *
       generalize (ksT had 11 ((S ++ [j]).take q)).length = nn at *
       go_wp2_with fail
       go_quiet (fail)
       go_wp2
       go_roundw
       case rel => exact ⟨q + 1,hlq,by go_num,by rw [HL.out]; go_num,Lib.hid (below_drewN HB.out _),HD⟩
       case measure => first | (simp [intOf]; done) | (simp [intOf]; omega)
     ·have hno:=ksT_no hqo hkk
      rw [hka] at hkk
      have ek:=ne_beq hkk
      have HD : Hid (t.data.toList ∉ ksT had 11 ((S ++ [j]).take (q + 1))):=Lib.hid (by rw [hno]; exact HT.out)
      have HL : Hid ((ksT had 11 ((S ++ [j]).take (q + 1))).length = (ksT had 11 ((S ++ [j]).take q)).length):=Lib.hid (by rw [hno])
      clear hno hka hta hkk b0 b1
      generalize (had[(S ++ [j])[q]]).k = kq at *
      generalize (S ++ [j])[q] = qq at *
      generalize (ksT had 11 ((S ++ [j]).take q)).length = nn at *
      go_wp2_with fail
      go_roundw
      case rel => exact ⟨q + 1,hlq,by go_num,by rw [HL.out],HB,HD⟩
      case measure => first | (simp [intOf]; done) | (simp [intOf]; omega)
    ·have hqe : (S ++ [j]).take q = (S ++ [j]):=List.take_of_length_le (by simp; omega)
     have hE0 : addE p.keys t.data.toList = if 10 <= (ksT had 11 ((S ++ [j]).take q)).length then 7 else 0:=by
      unfold addE
      have h1:=HT.out
      rw [hqe] at h1
      rw [<- hkeys,keysK_ksT,if_neg (by rw [List.mem_reverse]; exact h1),List.length_reverse,hqe]
     have hqi : ¬ (q : Int) < S.length + 1:=by omega
     have hbw:=hbel.trans (HB.out.mono hbel.size)
     by_cases h10 : 10 <= (ksT had 11 ((S ++ [j]).take q)).length
     ·rw [if_pos h10] at hE0
      have H0:=Lib.hid hE0
      clear hE0 hqe
      generalize (ksT had 11 ((S ++ [j]).take q)).length = nn at *
      go_wp2_with fail
      go_ret
      exact ⟨by rw [HE.out,H0.out]; rfl,hbw⟩
     ·rw [if_neg h10] at hE0
      have H0:=Lib.hid hE0
      clear hE0 hqe
      generalize (ksT had 11 ((S ++ [j]).take q)).length = nn at *
      go_wp2_with fail
      go_ret
      exact ⟨by rw [HE.out,H0.out]; rfl,hbw⟩
end Go.Proofs.YtbnppjmmlfncmaaGreatDoor
namespace Go.Proofs.YtbnppjmmlfncmaaGreatDoor
open Go.RowKit
variable [Fo]
theorem rstep_any (w : World) (v : Value) (had : List Ev) (st : List Pt) (x : Ev) (hv : ERead w v had) (hn : had.length <= 100000) (hs : x.t.size <= 1099511627776) (hs2 : x.v.size <= 1099511627776) (hR : Rel had st) (hG : Good st) :
 Calls Tryz.prog 63 #[v,evV x] w (RSPost w st x):=by
 cases hf : formedB x with
 | false => exact rstep_bad w v st x hs hs2 (by obtain ⟨p,r,rfl⟩:=hG.ne; simp) hf
 | true =>
  cases ha : atL had with
  | nil => exact rstep_top w v had st x hv hn hs hs2 hf hR ha
  | cons pl ps =>
   obtain ⟨p,r,rfl,hI,hl⟩:=rel_inner hR ha
   have hG6 : r.length <= 6:=by have:=hG.2; simpa using this
   have hop:=hI.2.2.1
   by_cases hk : x.k = 8 \/ x.k = 11
   ·cases hcb : contB p.kind p.last x.k (emptyT x.t) with
    | false => exact rstep_keybad w v had p r x pl ps hv hn hs hs2 hf ha hI hk hcb
    | true =>
     have hkk:=keyK_is hop hcb hk
     unfold keyK at hkk
     by_cases h7 : p.kind = 7
     ·rw [if_pos h7] at hkk
      refine rstep_key7 w v had p r x pl ps hv hn hs hs2 hf ha hI hkk h7 ?_
      intro h8
      unfold contB at hcb
      rw [h7,if_neg (by decide),if_pos rfl,if_pos h8,hkk] at hcb
      exact absurd hcb (by decide)
     ·rw [if_neg h7] at hkk
      by_cases h10 : p.kind = 10
      ·rw [if_pos h10] at hkk
       refine rstep_key10 w v had p r x pl ps hv hn hs hs2 hf ha hI hkk h10 ?_
       unfold contB at hcb
       rw [h10,if_neg (by decide),if_neg (by decide),if_pos rfl] at hcb
       unfold contElem at hcb
       rw [if_pos hkk,decide_eq_true_iff] at hcb
       exact hcb
      ·rw [if_neg h10] at hkk
       omega
   ·rw [not_or] at hk
    unfold opensK at hop
    rw [decide_eq_true_iff] at hop
    rcases hop with h | h | h
    ·exact rstep_5 w v had p r x pl ps hv hn hs hs2 hf ha hI hl hG6 h hk
    ·exact rstep_7 w v had p r x pl ps hv hn hs hs2 hf ha hI hl hG6 h hk
    ·exact rstep_10 w v had p r x pl ps hv hn hs hs2 hf ha hI hl hG6 h hk
theorem rstepV (w : World) (v : Value) (had : List Ev) (st : List Pt) (E : Int) (x : Ev) (hE : stepE st x = E) (hv : ERead w v had) (hn : had.length <= 100000) (hs : x.t.size <= 1099511627776) (hs2 : x.v.size <= 1099511627776) (hR : Rel had st) (hG : Good st) :
 Calls Tryz.prog 63 #[v,.agg #[.int .i64 x.k,.string x.t,.string x.v]] w fun e w' => e = .returned (.int .i64 E) /\ Below w.heap.size w w':=by
 have:=rstep_any w v had st x hv hn hs hs2 hR hG
 unfold RSPost at this
 rw [hE] at this
 exact this
set_option maxHeartbeats 4000000 in
theorem rwhole_any (w : World) (v : Value) (xs : List Ev) (hv : ERead w v xs) (hx : ∀ x ∈ xs,x.t.size <= 1099511627776 /\ x.v.size <= 1099511627776) (hn : xs.length <= 100000) :
 Calls Tryz.prog 36 #[v] w fun e w' => e = WEnd (wholeGo 0 [topP] xs) /\ Below w.heap.size w w':=by
 have hv':=hv
 obtain ⟨A,c,rfl,hlc,hcm,hr⟩:=hv'
 go_enter Tryz.func36,Tryz.ntmps36
 go_wp2_with fail
 go_loopw [4] (fun i wr => ∃ (k : Nat) (st : List Pt),k <= xs.length /\ i = .int .i64 k /\ Hid (Rel (xs.take k) st) /\ Hid (Good st) /\ Hid (Below w.heap.size w wr) /\ Hid (wholeGo 0 [topP] xs = wholeGo k st (xs.drop k))) (fun i _ => xs.length - (intOf i).toNat)
 case atStart => exact ⟨0,[topP],Nat.zero_le _,rfl,Lib.hid rel_start,Lib.hid good_start,Lib.hid (Below.refl _ _),Lib.hid rfl⟩
 case round =>
  obtain ⟨k,st,hk,rfl,HR,HG,HB,HW⟩:=hrel
  have hvr:=hv.below HB.out
  by_cases hlt : k < xs.length
  ·obtain ⟨bb,oo,rfl,hc⟩:=hr (by omega)
   obtain ⟨h1,h2,h3⟩:=hc k hlt
   obtain ⟨hs,hs2⟩:=hx _ (List.getElem_mem hlt)
   have g1:=(HB.out.cell (cell_lt h1)).trans h1
   have g2:=(HB.out.cell (cell_lt h2)).trans h2
   have g3:=(HB.out.cell (cell_lt h3)).trans h3
   have hd:=HW.out
   rw [List.drop_eq_getElem_cons hlt] at hd
   simp only [wholeGo] at hd
   have HT : Hid (xs.take (k + 1) = xs.take k ++ [xs[k]]):=Lib.hid (List.take_succ_eq_append_getElem hlt)
   have htl : (xs.take k).length <= 100000:=by rw [List.length_take]; omega
   clear hc hr h1 h2 h3
   generalize xs[k] = x at *
   have hvk:=(hvr.take (k:=k) (by omega)).below (below_drew (Below.refl _ _))
   have hS:=rstepV wr.drew _ _ st _ x rfl hvk htl hs hs2 HR.out HG.out
   have HG2:=Lib.hid (good_step HG.out x)
   have hBd:=below_drew HB.out
   have hlti : (k : Int) < xs.length:=by omega
   have hkc : k <= c:=by omega
   have hcm2 : c <= 9223372036854775807:=by simpa [maxLen] using hcm
   by_cases hz : stepE st x = 0
   ·rw [if_pos hz] at hd
    have HD:=Lib.hid hd
    have HR2 : Hid (Rel (xs.take (k + 1)) (stepS st x)):=Lib.hid (by rw [HT.out]; exact rel_step HR.out x hz)
    rw [hz] at hS
    clear hd hz hvk hvr
    go_wp2_with fail
    go_still_tail 7,(by kernel_rfl)
    change wpList _ _ _ _ _ wr.drew
    generalize wr.drew = wd at *
    go_wp2_with (first
     | (go_at_call 63; refine hS.mono ?_; rintro e w3 ⟨rfl,hb3⟩))
    go_roundw
    case rel => exact ⟨k + 1,_,hlt,by go_num,HR2,HG2,Lib.hid (hBd.trans (hb3.mono hBd.size)),HD⟩
    case measure => first | (simp [intOf]; done) | (simp [intOf]; omega)
   ·rw [if_neg hz] at hd
    have HD:=Lib.hid hd
    have e0:=ne_beq hz
    have b0:=ne_bne hz
    generalize stepE st x = E at *
    clear hd hz hvk hvr
    go_wp2_with fail
    go_still_tail 7,(by kernel_rfl)
    change wpList _ _ _ _ _ wr.drew
    generalize wr.drew = wd at *
    go_wp2_with (first
     | (go_at_call 63; refine hS.mono ?_; rintro e w3 ⟨rfl,hb3⟩))
    go_ret2
    exact ⟨by rw [HD.out]; rfl,hBd.trans (hb3.mono hBd.size)⟩
  ·have hke : k = xs.length:=by omega
   subst hke
   have hd:=HW.out
   rw [List.drop_of_length_le (Nat.le_refl _)] at hd
   simp only [wholeGo] at hd
   have hR:=HR.out
   rw [List.take_of_length_le (Nat.le_refl _)] at hR
   rw [(rel_done hR).1] at hd
   have hA:=at_any wr _ xs hvr hn
   have hlti : ¬ ((xs.length : Nat) : Int) < xs.length:=by omega
   cases ha : atL xs with
   | nil =>
    rw [ha] at hd
    rw [atEnd_nil ha] at hA
    go_wp2_with fail
    refine hA.mono ?_
    rintro e w3 ⟨rfl,hb3⟩
    by_cases h0 : xs.length = 0
    ·rw [decide_eq_false (by omega : ¬ 0 < xs.length)] at hd
     have HD:=Lib.hid hd
     clear hd ha hR
     go_wp2_with fail
     go_ret2
     exact ⟨by rw [HD.out,h0]; rfl,HB.out.trans (hb3.mono HB.out.size)⟩
    ·rw [decide_eq_true (by omega : 0 < xs.length)] at hd
     have HD:=Lib.hid hd
     have e0 : (((xs.length : Nat) : Int) == 0) = false:=ne_beq (by omega)
     clear hd ha hR h0
     go_wp2_with fail
     go_ret2
     exact ⟨by rw [HD.out]; rfl,HB.out.trans (hb3.mono HB.out.size)⟩
   | cons p ps =>
    rw [ha] at hd
    rw [atEnd_cons ha] at hA
    have HD:=Lib.hid hd
    have hpi : (0 : Int) <= p:=by omega
    clear hd ha hR
    go_wp2_with (first
     | (go_at_call 64; refine hA.mono ?_; rintro e w3 ⟨rfl,hb3⟩))
    go_ret2
    exact ⟨by rw [HD.out]; rfl,HB.out.trans (hb3.mono HB.out.size)⟩
end Go.Proofs.YtbnppjmmlfncmaaGreatDoor
