/-
  carry's reference: outline.
  carry's reference: Deep, tabled.
  carry's reference: Deep.
-/
import Derived.Test.YtbnppjmmlfncmaaGreatDoorCsA34
import Derived.Test.YtbnppjmmlfncmaaGreatDoorCsA07
import Derived.Test.YtbnppjmmlfncmaaGreatDoorCsA28
set_option maxRecDepth 100000
set_option linter.unusedSimpArgs false
set_option linter.unusedVariables false
namespace Go.Proofs.YtbnppjmmlfncmaaGreatDoor
open Go.RowKit Go.Maps
theorem in_take (way : List Nd) (j : Nat) (h : j < way.length) : inN (way.take (j + 1)) = inN (way.take j) + if (way.getD j dNd).k = 8 then 0 else 1:=by
 rw [List.take_succ_eq_append_getElem h,inN_snoc,getDn h]
theorem in_len (way : List Nd) : inN way <= way.length:=List.length_filter_le _ _
set_option maxHeartbeats 8000000 in
theorem routline_any (way : List Nd) (n : Nd) (hs : smallT n) (hsz : sizeN n * 1048900 <= 100000000000) (hwt : (lastN way).t.size <= 1048576) (hwl : way.length <= 100000) (hkl : n.kids.length <= 100000) (A : Option Addr) (c : Nat) (w : World) (hA : WayAt w way n A c) :
 Calls Tryz.prog 96 #[.slice A (way.length + 1) c] w fun e w' => e = .returned (.bool (outlT way n)) /\ Below w.heap.size w w':=by
 obtain ⟨hlc,hcm,b,o,rfl,hway,hlast⟩:=hA.nth
 obtain ⟨B,cB,q0,q1,q2,q3,hn1⟩:=hlast
 have al:=al_nd w #[.int .i64 n.k,.string n.t,.string n.v,.slice B n.kids.length cB]
 have bX:=Blk.new w 24 #[.int .i64 n.k,.string n.t,.string n.v,.slice B n.kids.length cB]
 obtain ⟨W0,hW0⟩ : ∃ W0,w.alloc (.cells #[.int .i64 n.k,.string n.t,.string n.v,.slice B n.kids.length cB] 24) = W0:=⟨_,rfl⟩
 rw [hW0] at al bX
 have HC : Hid (∀ W,Below W0.heap.size W0 W -> W.cell? ⟨w.heap.size,0,none⟩ = some (.int .i64 n.k) /\ W.cell? ⟨w.heap.size,1,none⟩ = some (.string n.t) /\ W.cell? ⟨w.heap.size,2,none⟩ = some (.string n.v) /\ W.cell? ⟨w.heap.size,3,none⟩ = some (.slice B n.kids.length cB)):=Lib.hid fun W h => nbox (bX.below h bX.lt)
 obtain ⟨x0,x1,x2,x3⟩:=HC.out W0 (Below.refl _ _)
 have HAL:=Lib.hid al
 have hlt1 : way.length < c:=by omega
 obtain ⟨R,hR⟩ : ∃ R,outlT way n = R:=⟨_,rfl⟩
 rw [hR]
 by_cases h10 : n.k = 10
 case pos =>
  have hR2 : false = R:=by rw [<- hR]; unfold outlT; rw [if_pos h10]
  subst hR2
  rw [h10] at q0 x0 hW0
  clear hR HC bX hway hA hn1 h10
  go_enter Tryz.func96,Tryz.ntmps96
  go_wp2
  go_ret
  exact ⟨rfl,HAL.out⟩
 case neg =>
 by_cases h8 : n.k = 8
 case pos =>
  have hR2 : true = R:=by rw [<- hR]; unfold outlT; rw [if_neg h10,if_pos h8]
  subst hR2
  rw [h8] at q0 x0 hW0
  clear hR HC bX hway hA hn1 h10 h8
  go_enter Tryz.func96,Tryz.ntmps96
  go_wp2
  go_ret
  exact ⟨rfl,HAL.out⟩
 case neg =>
  have HRW : Hid (∀ W,Below W0.heap.size W0 W -> Calls Tryz.prog 132 #[.agg #[.int .i64 n.k,.string n.t,.string n.v,.slice B n.kids.length cB]] W fun e w' => e = .returned (.string ⟨(rowN n).toArray⟩) /\ Below W.heap.size W w'):=Lib.hid fun W h => rrow_any n _ B cB W ((hn1.below al).below h) hs hsz
  have hrl : (rowN n).length <= 100000000000:=Nat.le_trans (Nat.le_trans (Nat.le_add_right _ 2) (rowN_len n hs)) hsz
  have hwn : wordN (lastN way) <= 100000000:=by
   have h1:=wordL_len (lastN way).t.data.toList
   have h2 : (lastN way).t.data.toList.length = (lastN way).t.size:=by simp
   unfold wordN
   omega
  have HWD : Hid (∀ W,Calls Tryz.prog 131 #[.string (lastN way).t] W _):=Lib.hid fun W => rword_any (lastN way).t W (Nat.le_trans hwt (by decide))
  have HKD : Hid (∀ j (h : j < way.length),∀ W,Below W0.heap.size W0 W -> W.cell? ⟨b,o + j * 4,none⟩ = some (.int .i64 (way.getD j dNd).k)):=Lib.hid fun j h W hW => by
   obtain ⟨_,_,p0,_⟩:=kid_cells (hway j h) (al.trans (hW.mono al.size))
   exact p0
  have HUP : Hid (0 < way.length -> ∃ B2 c2 l2,W0.cell? ⟨b,o + (way.length - 1) * 4,none⟩ = some (.int .i64 (lastN way).k) /\ W0.cell? ⟨b,o + (way.length - 1) * 4 + 1,none⟩ = some (.string (lastN way).t) /\ W0.cell? ⟨b,o + (way.length - 1) * 4 + 2,none⟩ = some (.string (lastN way).v) /\ W0.cell? ⟨b,o + (way.length - 1) * 4 + 3,none⟩ = some (.slice B2 l2 c2)):=Lib.hid fun h => by
   have hup:=hway (way.length - 1) (by omega)
   rw [lastN_at h] at hup
   obtain ⟨B2,c2,u0,u1,u2,u3,_⟩:=kid_cells hup al
   exact ⟨B2,c2,_,u0,u1,u2,u3⟩
  have HIT : Hid _:=Lib.hid (in_take way)
  have HIE : Hid (way.take way.length = way):=Lib.hid List.take_length
  have hin : ∀ j,inN (way.take j) <= 100000:=fun j => Nat.le_trans (in_len _) (by rw [List.length_take]; omega)
  have HIL:=Lib.hid (in_len way)
  have HR : Hid (R = decide (lineN n (if 0 < inN way then 2 * (inN way - 1) + (if (lastN way).k = 8 then wordN (lastN way) else 0) + 2 else 0) <= 160)):=Lib.hid (by
   rw [<- hR]
   unfold outlT
   rw [if_neg h10,if_neg h8])
  unfold lineN at HR
  have y10:=ibeq h10
  have y8:=ibeq h8
  have hWD : (⟨(wordL (lastN way).t.data.toList).toArray⟩ : ByteArray).size = wordN (lastN way):=by rw [sizeOf_]; rfl
  have hRD : (⟨(rowN n).toArray⟩ : ByteArray).size = (rowN n).length:=by rw [sizeOf_]
  generalize (⟨(wordL (lastN way).t.data.toList).toArray⟩ : ByteArray) = WS at *
  generalize (⟨(rowN n).toArray⟩ : ByteArray) = RS at *
  generalize wordN (lastN way) = WN at *
  generalize (rowN n).length = RN at *
  generalize (lastN way).t = ut at *
  generalize (lastN way).v = uv at *
  generalize (lastN way).k = uk at *
  clear hR bX hway hA hn1 h10 h8 al hs hsz hwt
  generalize n.k = k at *
  generalize n.kids.length = KL at *
  go_enter Tryz.func96,Tryz.ntmps96
  go_wp2
  clear hW0
  go_loop [5,6] (fun a i => ∃ j : Nat,j <= way.length /\ i = .int .i64 (j : Int) /\ a = .int .i64 ((inN (way.take j) : Nat) : Int)) (fun _ i => way.length - (intOf i).toNat)
  case atStart => exact ⟨0,Nat.zero_le _,rfl,rfl⟩
  case round =>
   obtain ⟨j,hj,rfl,rfl⟩:=hrel
   have hcj:=hin j
   by_cases hlt : j < way.length
   case pos =>
    have hct:=HIT.out j hlt
    have p0:=HKD.out j hlt W0 (Below.refl _ _)
    have hjc : j < c:=by omega
    have hj1 : (j : Int) + 1 < (way.length : Int) + 1:=by omega
    clear HIT HKD HIE HR hin HUP HIL HRW HWD
    generalize (way.getD j dNd).k = kk at *
    obtain ⟨C2,hC2⟩ : ∃ C2,inN (way.take (j + 1)) = C2:=⟨_,rfl⟩
    rw [hC2] at hct
    have HC2:=Lib.hid hC2
    clear hC2
    generalize inN (way.take j) = C1 at *
    by_cases hk : kk = 8
    case pos =>
     subst hk
     rw [if_pos rfl,Nat.add_zero] at hct
     subst hct
     go_wp2
     go_round
     case rel => exact ⟨j + 1,hlt,by go_num,by rw [HC2.out]⟩
     case measure => first | (simp [intOf]; done) | (simp [intOf]; omega)
    case neg =>
     rw [if_neg hk] at hct
     subst hct
     have yk:=ibeq hk
     have yk2:=ibne hk
     go_wp2
     go_round
     case rel => exact ⟨j + 1,hlt,by go_num,by rw [HC2.out] <;> go_num⟩
     case measure => first | (simp [intOf]; done) | (simp [intOf]; omega)
   case neg =>
    obtain rfl : j = way.length:=by omega
    rw [HIE.out] at hcj ⊢
    clear HIT HKD HIE hin
    have hil:=HIL.out
    clear HIL
    generalize inN way = I at *
    obtain ⟨S,hS⟩ : ∃ S,(if 0 < I then 2 * (I - 1) + (if uk = 8 then WN else 0) + 2 else 0) = S:=⟨_,rfl⟩
    rw [hS] at HR
    by_cases hI : I = 0
    case pos =>
     subst hI
     by_cases hk0 : 0 < KL
     case pos =>
      rw [if_neg (by omega)] at hS
      have HX : Hid (∀ X : Int,X = (0 : Int) - 1 -> decide (X <= 160) = R):=Lib.hid fun X hX => by
       rw [hX,HR.out,if_pos hk0]
       exact decide_eq_decide.2 (by omega)
      have hk1 : (0 : Int) < KL:=by omega
      clear HR hk0 hS
      clear HUP
      have hb0 : Below W0.heap.size W0 W0:=Below.refl _ _
      have HB:=Lib.hid (HAL.out.trans (hb0.mono HAL.out.size))
      go_wp2
      go_ret
      exact ⟨ret_bool ((show true = decide ((-1 : Int) <= 160) from by decide).trans (HX.out (-1) (by omega))),HB.out⟩
     case neg =>
      rw [if_neg (by omega)] at hS
      have HX : Hid (∀ X : Int,X = (0 : Int) + (RN : Int) -> decide (X <= 160) = R):=Lib.hid fun X hX => by
       rw [hX,HR.out,if_neg hk0]
       exact decide_eq_decide.2 (by omega)
      obtain rfl : KL = 0:=by omega
      clear HR hk0 hS
      clear HUP
      have hb0 : Below W0.heap.size W0 W0:=Below.refl _ _
      have hrw:=HRW.out _ hb0
      have HBB:=Lib.hid hb0
      go_wp2_with fail
      refine hrw.mono ?_
      rintro e w9 ⟨rfl,hb9⟩
      have HB:=Lib.hid (HAL.out.trans ((HBB.out.trans (hb9.mono HBB.out.size)).mono HAL.out.size))
      clear hrw hb9
      go_wp2
      go_ret
      exact ⟨ret_bool (HX.out _ (by omega)),HB.out⟩
    case neg =>
     obtain ⟨J,rfl⟩ : ∃ J,I = J + 1:=⟨I - 1,by omega⟩
     by_cases hu : uk = 8
     case pos =>
      subst hu
      by_cases hk0 : 0 < KL
      case pos =>
       rw [if_pos (by omega),if_pos rfl] at hS
       have HX : Hid (∀ X : Int,X = (2 * (J : Int) + (WN : Int) + 2) - 1 -> decide (X <= 160) = R):=Lib.hid fun X hX => by
        rw [hX,HR.out,if_pos hk0]
        exact decide_eq_decide.2 (by omega)
       have hk1 : (0 : Int) < KL:=by omega
       clear HR hk0 hS
       obtain ⟨B2,c2,l2,u0,u1,u2,u3⟩:=HUP.out (by omega)
       have al2:=al_nd W0 #[.int .i64 8,.string ut,.string uv,.slice B2 l2 c2]
       obtain ⟨M,hM⟩ : ∃ M,way.length = M + 1:=⟨way.length - 1,by omega⟩
       rw [hM] at u0 u1 u2 u3 q0 q1 q2 q3 hlt1 hlc hwl ⊢
       simp only [Nat.add_sub_cancel] at u0 u1 u2 u3
       clear HUP hM hlt hj hil
       obtain ⟨z0,z1,z2,z3⟩:=HC.out _ al2
       have hw:=HWD.out (W0.alloc (.cells #[.int .i64 8,.string ut,.string uv,.slice B2 l2 c2] 24))
       go_wp2_with fail
       refine hw.mono ?_
       rintro e w1 ⟨rfl,hb1⟩
       have hbx:=al2.trans (hb1.mono al2.size)
       obtain ⟨x0,x1,x2,x3⟩:=HC.out w1 hbx
       clear hw hb1
       have HB:=Lib.hid (HAL.out.trans (hbx.mono HAL.out.size))
       go_wp2
       go_ret
       exact ⟨ret_bool (HX.out _ (by omega)),HB.out⟩
      case neg =>
       rw [if_pos (by omega),if_pos rfl] at hS
       have HX : Hid (∀ X : Int,X = (2 * (J : Int) + (WN : Int) + 2) + (RN : Int) -> decide (X <= 160) = R):=Lib.hid fun X hX => by
        rw [hX,HR.out,if_neg hk0]
        exact decide_eq_decide.2 (by omega)
       obtain rfl : KL = 0:=by omega
       clear HR hk0 hS
       obtain ⟨B2,c2,l2,u0,u1,u2,u3⟩:=HUP.out (by omega)
       have al2:=al_nd W0 #[.int .i64 8,.string ut,.string uv,.slice B2 l2 c2]
       obtain ⟨M,hM⟩ : ∃ M,way.length = M + 1:=⟨way.length - 1,by omega⟩
       rw [hM] at u0 u1 u2 u3 q0 q1 q2 q3 hlt1 hlc hwl ⊢
       simp only [Nat.add_sub_cancel] at u0 u1 u2 u3
       clear HUP hM hlt hj hil
       obtain ⟨z0,z1,z2,z3⟩:=HC.out _ al2
       have hw:=HWD.out (W0.alloc (.cells #[.int .i64 8,.string ut,.string uv,.slice B2 l2 c2] 24))
       go_wp2_with fail
       refine hw.mono ?_
       rintro e w1 ⟨rfl,hb1⟩
       have hbx:=al2.trans (hb1.mono al2.size)
       obtain ⟨x0,x1,x2,x3⟩:=HC.out w1 hbx
       clear hw hb1
       have hrw:=HRW.out w1 hbx
       have HBB:=Lib.hid hbx
       go_wp2_with fail
       refine hrw.mono ?_
       rintro e w9 ⟨rfl,hb9⟩
       have HB:=Lib.hid (HAL.out.trans ((HBB.out.trans (hb9.mono HBB.out.size)).mono HAL.out.size))
       clear hrw hb9
       go_wp2
       go_ret
       exact ⟨ret_bool (HX.out _ (by omega)),HB.out⟩
     case neg =>
      by_cases hk0 : 0 < KL
      case pos =>
       rw [if_pos (by omega),if_neg hu] at hS
       have yu:=ibeq hu
       have HX : Hid (∀ X : Int,X = (2 * (J : Int) + 2) - 1 -> decide (X <= 160) = R):=Lib.hid fun X hX => by
        rw [hX,HR.out,if_pos hk0]
        exact decide_eq_decide.2 (by omega)
       have hk1 : (0 : Int) < KL:=by omega
       clear HR hk0 hS
       obtain ⟨B2,c2,l2,u0,u1,u2,u3⟩:=HUP.out (by omega)
       have al2:=al_nd W0 #[.int .i64 uk,.string ut,.string uv,.slice B2 l2 c2]
       obtain ⟨M,hM⟩ : ∃ M,way.length = M + 1:=⟨way.length - 1,by omega⟩
       rw [hM] at u0 u1 u2 u3 q0 q1 q2 q3 hlt1 hlc hwl ⊢
       simp only [Nat.add_sub_cancel] at u0 u1 u2 u3
       clear HUP hM hlt hj hil
       obtain ⟨z0,z1,z2,z3⟩:=HC.out _ al2
       have HB:=Lib.hid (HAL.out.trans (al2.mono HAL.out.size))
       go_wp2
       go_ret
       exact ⟨ret_bool (HX.out _ (by omega)),HB.out⟩
      case neg =>
       rw [if_pos (by omega),if_neg hu] at hS
       have yu:=ibeq hu
       have HX : Hid (∀ X : Int,X = (2 * (J : Int) + 2) + (RN : Int) -> decide (X <= 160) = R):=Lib.hid fun X hX => by
        rw [hX,HR.out,if_neg hk0]
        exact decide_eq_decide.2 (by omega)
       obtain rfl : KL = 0:=by omega
       clear HR hk0 hS
       obtain ⟨B2,c2,l2,u0,u1,u2,u3⟩:=HUP.out (by omega)
       have al2:=al_nd W0 #[.int .i64 uk,.string ut,.string uv,.slice B2 l2 c2]
       obtain ⟨M,hM⟩ : ∃ M,way.length = M + 1:=⟨way.length - 1,by omega⟩
       rw [hM] at u0 u1 u2 u3 q0 q1 q2 q3 hlt1 hlc hwl ⊢
       simp only [Nat.add_sub_cancel] at u0 u1 u2 u3
       clear HUP hM hlt hj hil
       obtain ⟨z0,z1,z2,z3⟩:=HC.out _ al2
       have hrw:=HRW.out _ al2
       have HBB:=Lib.hid al2
       go_wp2_with fail
       refine hrw.mono ?_
       rintro e w9 ⟨rfl,hb9⟩
       have HB:=Lib.hid (HAL.out.trans ((HBB.out.trans (hb9.mono HBB.out.size)).mono HAL.out.size))
       clear hrw hb9
       go_wp2
       go_ret
       exact ⟨ret_bool (HX.out _ (by omega)),HB.out⟩
def TabPost (T : Option (List UInt8)) (e : Ending) : Prop:=∃ p : List UInt8,e = .returned (.tuple #[.string ⟨p.toArray⟩,.bool T.isSome]) /\ ∀ q,T = some q -> p = q
theorem tabPost_no {T : Option (List UInt8)} (h : none = T) (p : List UInt8) : TabPost T (.returned (.tuple #[.string ⟨p.toArray⟩,.bool false])):=by subst h; exact ⟨p,rfl,fun q h => by cases h⟩
theorem tabPost_yes {T : Option (List UInt8)} {p : List UInt8} (h : some p = T) : TabPost T (.returned (.tuple #[.string ⟨p.toArray⟩,.bool true])):=by subst h; exact ⟨p,rfl,fun q h => by injection h⟩
theorem tab_one (P : List UInt8) (way : List Nd) (i : Nat) (h : i + 1 = way.length) : tabR P (way.drop i) = some P:=by
 rw [List.drop_eq_getElem_cons (by omega),List.drop_eq_nil_of_le (by omega)]
 simp only [tabR]
theorem tab_past (P : List UInt8) (way : List Nd) (i : Nat) (h : way.length <= i) : tabR P (way.drop i) = none:=by
 rw [List.drop_eq_nil_of_le h]
 simp only [tabR]
theorem tab_two (P : List UInt8) (way : List Nd) (i : Nat) (h : i + 2 = way.length) : tabR P (way.drop i) = none:=by
 rw [List.drop_eq_getElem_cons (by omega),List.drop_eq_getElem_cons (by omega),List.drop_eq_nil_of_le (by omega)]
 simp only [tabR]
theorem tab_three (P : List UInt8) (way : List Nd) (i : Nat) (h : i + 2 < way.length) : tabR P (way.drop i) =
 if rowsB ((way.getD (i + 1) dNd).kids.getD 0 dNd) = true then tabR (path2 P (way.getD (i + 1) dNd)) (way.drop (i + 3)) else if ((way.getD (i + 1) dNd).kids.getD 0 dNd).k = 7 then tabR (path2 P (way.getD (i + 1) dNd)) (way.drop (i + 2)) else none:=by
 rw [List.drop_eq_getElem_cons (by omega),List.drop_eq_getElem_cons (show i + 1 < way.length by omega),List.drop_eq_getElem_cons (show i + 1 + 1 < way.length by omega),getDn (show i + 1 < way.length by omega)]
 simp only [tabR]
 rfl
def Downs (way : List Nd) : Prop:=∀ i,i + 1 < way.length -> (way.getD i dNd).k = 7 ->
 0 < (way.getD (i + 1) dNd).kids.length /\ (way.getD (i + 1) dNd).t.size <= 1048576 /\
 (rowsB ((way.getD (i + 1) dNd).kids.getD 0 dNd) = true -> i + 3 < way.length -> (way.getD (i + 3) dNd).k = 7) /\
 (((way.getD (i + 1) dNd).kids.getD 0 dNd).k = 7 -> i + 2 < way.length -> (way.getD (i + 2) dNd).k = 7)
set_option maxHeartbeats 8000000 in
theorem rtabled_any (way : List Nd) (hwp : 0 < way.length) (hd : Downs way) (hwl : way.length <= 1000) (S : Nat -> Nat -> Prop) (b o c : Nat) (hlc : way.length <= c) (hcm : c <= 9223372036854775807) (w : World) (hway : ∀ j (h : j < way.length),KidAt S w b (o + j * 4) (way.getD j dNd)) :
 Calls Tryz.prog 133 #[.slice (some ⟨b,o,none⟩) way.length c] w fun e w' => TabPost (tabT way) e /\ Below w.heap.size w w':=by
 obtain ⟨B0,c0,q0,q1,q2,q3,_⟩:=hway 0 hwp
 simp only [Nat.zero_mul,Nat.add_zero] at q0 q1 q2 q3
 have hc0 : 0 < c:=by omega
 have hl0 : (0 : Int) < way.length:=by omega
 have hhd : way.headD dNd = way.getD 0 dNd:=by cases way <;> rfl
 by_cases h7 : (way.getD 0 dNd).k = 7
 case neg =>
  have hT : tabT way = none:=by unfold tabT; rw [if_neg (by rw [hhd]; exact h7)]
  rw [hT]
  have z1:=ibeq h7
  have z2:=ibne h7
  clear hT hd hway hhd
  generalize (way.getD 0 dNd).k = kk at *
  clear h7
  go_enter Tryz.func133,Tryz.ntmps133
  go_wp2
  go_ret2
  exact ⟨tabPost_no rfl [],Below.refl _ _⟩
 case pos =>
  have hT : tabT way = tabR [] way:=by unfold tabT; rw [if_pos (by rw [hhd]; exact h7)]
  rw [hT]
  obtain ⟨T,hT2⟩ : ∃ T,tabR [] way = T:=⟨_,rfl⟩
  rw [hT2]
  rw [h7] at q0
  have HT0 : Hid (tabR [] (way.drop 0) = T):=Lib.hid (by rw [List.drop_zero]; exact hT2)
  have H70:=Lib.hid (fun _ : 0 < way.length => h7)
  have HD:=Lib.hid hd
  have HW : Hid (∀ j (h : j < way.length),KidAt S w b (o + j * 4) (way.getD j dNd)):=Lib.hid hway
  clear hT hT2 hd hway hhd h7
  go_enter Tryz.func133,Tryz.ntmps133
  go_wp2
  go_loopw [4,5] (fun pv a wr => ∃ (i : Nat) (P : List UInt8),i <= way.length + 2 /\ a = .int .i64 (i : Int) /\ pv = .string ⟨P.toArray⟩ /\ P.length <= i * 2000000 /\ Hid (tabR P (way.drop i) = T) /\ Hid (i < way.length -> (way.getD i dNd).k = 7) /\ Hid (Below w.heap.size w wr)) (fun _ a _ => way.length + 3 - (intOf a).toNat)
  case atStart => exact ⟨0,[],by omega,rfl,rfl,by simp,HT0,H70,Lib.hid (Below.refl _ _)⟩
  case round =>
   obtain ⟨i,P,hi,rfl,rfl,hP,HT,H7,HB⟩:=hrel
   by_cases h1 : i + 1 < way.length
   case neg =>
    have zn : ¬ (i : Int) + 1 < (way.length : Int):=by omega
    by_cases he : i + 1 = way.length
    case pos =>
     have ht:=HT.out
     rw [tab_one P way i he] at ht
     have HTT:=Lib.hid ht
     clear ht
     have ze : (i : Int) + 1 = (way.length : Int):=by omega
     clear HD HW HT0 HT H70 H7
     go_wp2
     go_ret2
     exact ⟨tabPost_yes HTT.out,HB.out⟩
    case neg =>
     have ht:=HT.out
     rw [tab_past P way i (by omega)] at ht
     have HTT:=Lib.hid ht
     clear ht
     have ze : ¬ (i : Int) + 1 = (way.length : Int):=by omega
     have ze2:=ibeq ze
     clear HD HW HT0 HT H70 H7
     go_wp2
     go_ret2
     exact ⟨tabPost_no HTT.out P,HB.out⟩
   case pos =>
   have z1 : (i : Int) + 1 < (way.length : Int):=by omega
   by_cases h2 : i + 2 < way.length
   case neg =>
    have z2 : (way.length : Int) <= (i : Int) + 2:=by omega
    have ht:=HT.out
    rw [tab_two P way i (by omega)] at ht
    have HTT:=Lib.hid ht
    clear ht HD HW HT0 HT H70 H7
    go_wp2
    go_ret2
    exact ⟨tabPost_no HTT.out [],HB.out⟩
   case pos =>
    have z2 : ¬ (way.length : Int) <= (i : Int) + 2:=by omega
    have hst:=tab_three P way i h2
    rw [HT.out] at hst
    obtain ⟨hkp,hts,hr3,hr2⟩:=HD.out i h1 (H7.out (by omega))
    obtain ⟨Bf,cf,f0,f1,f2,f3,hnf⟩:=kid_cells (HW.out (i + 1) h1) HB.out
    have hic : i + 1 < c:=by omega
    clear HT HT0 H70 H7
    generalize way.getD (i + 1) dNd = f at *
    obtain ⟨hfc,hfm,hfk⟩:=(NAt.def_ _ _ _).1 hnf
    obtain ⟨bf,of,rfl,_,hkid⟩:=hfk hkp
    have hm:=hkid 0 hkp
    rw [<- getDn hkp] at hm
    simp only [Nat.zero_mul,Nat.add_zero] at hm
    obtain ⟨Bm,cm,m0,m1,m2,m3,hnm⟩:=hm
    have hfm2 : cf <= 9223372036854775807:=by simpa [maxLen] using hfm
    have hcf0 : 0 < cf:=by omega
    have hkp2 : (0 : Int) < f.kids.length:=by omega
    have hp2:=path2_len P f
    have hwn : wordN f <= 1048576 + 290:=by
     have h1:=wordL_len f.t.data.toList
     have h2 : f.t.data.toList.length = f.t.size:=by simp
     unfold wordN
     omega
    have hfx : f.t.size <= 1099511627776:=by omega
    have hWo:=fun W => rword_any f.t W hfx
    have HP2 : Hid (path2 P f = (if P = [] then [] else P ++ [46]) ++ wordL f.t.data.toList):=Lib.hid rfl
    have hwN : (wordL f.t.data.toList).length = wordN f:=rfl
    clear hkid hfk hnf
    generalize f.kids.getD 0 dNd = m at *
    generalize f.kids.length = KF at *
    generalize path2 P f = P2 at *
    generalize wordL f.t.data.toList = WL at *
    generalize wordN f = WN at *
    generalize f.k = fkk at *
    generalize f.t = ft at *
    generalize f.v = fv at *
    have al:=al_nd wr #[.int .i64 fkk,.string ft,.string fv,.slice (some ⟨bf,of,none⟩) KF cf]
    have bF:=Blk.new wr 24 #[.int .i64 fkk,.string ft,.string fv,.slice (some ⟨bf,of,none⟩) KF cf]
    obtain ⟨y0,y1,y2,y3⟩ : _ /\ _ /\ _ /\ _:=⟨bF.cell 0,bF.cell 1,bF.cell 2,bF.cell 3⟩
    have hRo:=rrows_any m S Bm cm _ (hnm.below al)
    have HBW:=Lib.hid (HB.out.trans (al.mono HB.out.size))
    have HBF:=Lib.hid bF
    have HM0:=Lib.hid ((al.cell (p:=⟨bf,of,none⟩) (cell_lt m0)).trans m0)
    have m0a:=(al.cell (p:=⟨bf,of,none⟩) (cell_lt m0)).trans m0
    have m1a:=(al.cell (p:=⟨bf,of + 1,none⟩) (cell_lt m1)).trans m1
    have m2a:=(al.cell (p:=⟨bf,of + 2,none⟩) (cell_lt m2)).trans m2
    have m3a:=(al.cell (p:=⟨bf,of + 3,none⟩) (cell_lt m3)).trans m3
    clear bF hnm al
    have hbl:=HB.out.size
    cases hr : rowsB m with
    | true =>
     rw [hr] at hst hRo
     rw [if_pos rfl] at hst
     have HS2:=Lib.hid hst.symm
     have HN:=Lib.hid (hr3 hr)
     clear hr3 hr2 hr
     by_cases hPe : P = []
     case pos =>
      subst hPe
      rw [if_pos rfl] at hp2
      have hPP : P2 = WL:=by rw [HP2.out,if_pos rfl,List.nil_append]
      have HC1 : Hid (P2 = WL):=Lib.hid hPP
      have eP : (⟨([] : List UInt8).toArray⟩ : ByteArray) = ⟨#[]⟩:=rfl
      have HC1 : Hid ((⟨P2.toArray⟩ : ByteArray) = (⟨#[]⟩ : ByteArray) ++ ⟨WL.toArray⟩):=Lib.hid (by rw [hPP,<- eP,strCat,List.nil_append])
      have hs0 : (⟨WL.toArray⟩ : ByteArray).size <= 1048866:=by rw [sizeOf_]; omega
      have hs1 : (⟨#[]⟩ : ByteArray).size = 0:=rfl
      rw [eP]
      clear HP2 hPP eP
      go_wp2_with fail
      refine hRo.mono ?_
      rintro e w1 ⟨rfl,hb1⟩
      have hb1z:=hb1
      have HBX:=Lib.hid (HBW.out.trans (hb1.mono HBW.out.size))
      have bF:=HBF.out.below hb1 HBF.out.lt
      have y1 : w1.cell? ⟨wr.heap.size,1,none⟩ = some (.string ft):=bF.cell 1
      have y3 : w1.cell? ⟨wr.heap.size,3,none⟩ = some (.slice (some ⟨bf,of,none⟩) KF cf):=bF.cell 3
      have m0:=(hb1.cell (p:=⟨bf,of,none⟩) (cell_lt HM0.out)).trans HM0.out
      clear hb1z hRo HBW
      go_wp2_with fail
      refine (hWo _).mono ?_
      rintro e w2 ⟨rfl,hb2⟩
      have HBY:=Lib.hid (HBX.out.trans (hb2.mono HBX.out.size))
      have y3 : w2.cell? ⟨wr.heap.size,3,none⟩ = some (.slice (some ⟨bf,of,none⟩) KF cf):=(bF.below hb2 bF.lt).cell 3
      have m0:=(hb2.cell (p:=⟨bf,of,none⟩) (cell_lt m0)).trans m0
      clear hb1 hb2 HBX bF HBF HM0 hWo
      go_wp2
      go_roundw
      case rel => exact ⟨i + 3,P2,by omega,by go_num,by rw [HC1.out] <;> rfl,by omega,HS2,HN,HBY⟩
      case measure => first | (simp [intOf]; done) | (simp [intOf]; omega)
     case neg =>
      rw [if_neg hPe] at hp2
      have HC1 : Hid ((⟨P2.toArray⟩ : ByteArray) = ((⟨P.toArray⟩ : ByteArray) ++ ⟨#[46]⟩) ++ ⟨WL.toArray⟩):=Lib.hid (by rw [HP2.out,if_neg hPe,show (⟨#[46]⟩ : ByteArray) = ⟨([46] : List UInt8).toArray⟩ from rfl,strCat,strCat])
      have n1 : (P == []) = false:=by rw [beq_eq_false_iff_ne]; exact hPe
      have n2 : ¬ P = []:=hPe
      have n3 : P.isEmpty = false:=by simpa using hPe
      have n4 : ¬ P.isEmpty = true:=by simpa using hPe
      obtain ⟨n5,n6⟩:=str_neq (y:=[]) hPe
      have t0 : (⟨([] : List UInt8).toArray⟩ : ByteArray).toList = []:=Lib.toList_data _
      rw [t0] at n5 n6
      have hs0 : (⟨WL.toArray⟩ : ByteArray).size <= 1048866:=by rw [sizeOf_]; omega
      have hs1 : (⟨P.toArray⟩ : ByteArray).size <= 3000000000:=by rw [sizeOf_]; omega
      have hs2 : (⟨#[46]⟩ : ByteArray).size = 1:=rfl
      have hs3 : ((⟨P.toArray⟩ : ByteArray) ++ ⟨#[46]⟩).size <= 3000000001:=by rw [show (⟨#[46]⟩ : ByteArray) = ⟨([46] : List UInt8).toArray⟩ from rfl,strCat,sizeOf_,List.length_append]; rw [sizeOf_] at hs1; simp; omega
      clear HP2 t0
      go_wp2_with fail
      refine hRo.mono ?_
      rintro e w1 ⟨rfl,hb1⟩
      have hb1z:=hb1
      have HBX:=Lib.hid (HBW.out.trans (hb1.mono HBW.out.size))
      have bF:=HBF.out.below hb1 HBF.out.lt
      have y1 : w1.cell? ⟨wr.heap.size,1,none⟩ = some (.string ft):=bF.cell 1
      have y3 : w1.cell? ⟨wr.heap.size,3,none⟩ = some (.slice (some ⟨bf,of,none⟩) KF cf):=bF.cell 3
      have m0:=(hb1.cell (p:=⟨bf,of,none⟩) (cell_lt HM0.out)).trans HM0.out
      clear hb1z hRo HBW
      go_wp2_with fail
      refine (hWo _).mono ?_
      rintro e w2 ⟨rfl,hb2⟩
      have HBY:=Lib.hid (HBX.out.trans (hb2.mono HBX.out.size))
      have y3 : w2.cell? ⟨wr.heap.size,3,none⟩ = some (.slice (some ⟨bf,of,none⟩) KF cf):=(bF.below hb2 bF.lt).cell 3
      have m0:=(hb2.cell (p:=⟨bf,of,none⟩) (cell_lt m0)).trans m0
      clear hb1 hb2 HBX bF HBF HM0 hWo
      go_wp2
      go_roundw
      case rel => exact ⟨i + 3,P2,by omega,by go_num,by rw [HC1.out] <;> rfl,by omega,HS2,HN,HBY⟩
      case measure => first | (simp [intOf]; done) | (simp [intOf]; omega)
    | false =>
     by_cases hk7 : m.k = 7
     case pos =>
      rw [hr] at hst hRo
      rw [if_neg (by decide),if_pos hk7] at hst
      have HS2:=Lib.hid hst.symm
      have HN:=Lib.hid (hr2 hk7)
      have HM1:=HM0.out
      rw [hk7] at HM1 hRo m0 m0a
      clear HM0
      have HM0:=Lib.hid HM1
      clear HM1
      clear hr3 hr2 hr
      by_cases hPe : P = []
      case pos =>
       subst hPe
       rw [if_pos rfl] at hp2
       have hPP : P2 = WL:=by rw [HP2.out,if_pos rfl,List.nil_append]
       have HC1 : Hid (P2 = WL):=Lib.hid hPP
       have eP : (⟨([] : List UInt8).toArray⟩ : ByteArray) = ⟨#[]⟩:=rfl
       have HC1 : Hid ((⟨P2.toArray⟩ : ByteArray) = (⟨#[]⟩ : ByteArray) ++ ⟨WL.toArray⟩):=Lib.hid (by rw [hPP,<- eP,strCat,List.nil_append])
       have hs0 : (⟨WL.toArray⟩ : ByteArray).size <= 1048866:=by rw [sizeOf_]; omega
       have hs1 : (⟨#[]⟩ : ByteArray).size = 0:=rfl
       rw [eP]
       clear HP2 hPP eP
       go_wp2_with fail
       refine hRo.mono ?_
       rintro e w1 ⟨rfl,hb1⟩
       have hb1z:=hb1
       have HBX:=Lib.hid (HBW.out.trans (hb1.mono HBW.out.size))
       have bF:=HBF.out.below hb1 HBF.out.lt
       have y1 : w1.cell? ⟨wr.heap.size,1,none⟩ = some (.string ft):=bF.cell 1
       have y3 : w1.cell? ⟨wr.heap.size,3,none⟩ = some (.slice (some ⟨bf,of,none⟩) KF cf):=bF.cell 3
       have m0:=(hb1.cell (p:=⟨bf,of,none⟩) (cell_lt HM0.out)).trans HM0.out
       clear hb1z hRo HBW
       go_wp2_with fail
       refine (hWo _).mono ?_
       rintro e w2 ⟨rfl,hb2⟩
       have HBY:=Lib.hid (HBX.out.trans (hb2.mono HBX.out.size))
       have y3 : w2.cell? ⟨wr.heap.size,3,none⟩ = some (.slice (some ⟨bf,of,none⟩) KF cf):=(bF.below hb2 bF.lt).cell 3
       have m0:=(hb2.cell (p:=⟨bf,of,none⟩) (cell_lt m0)).trans m0
       clear hb1 hb2 HBX bF HBF HM0 hWo
       go_wp2
       go_roundw
       case rel => exact ⟨i + 2,P2,by omega,by go_num,by rw [HC1.out] <;> rfl,by omega,HS2,HN,HBY⟩
       case measure => first | (simp [intOf]; done) | (simp [intOf]; omega)
      case neg =>
       rw [if_neg hPe] at hp2
       have HC1 : Hid ((⟨P2.toArray⟩ : ByteArray) = ((⟨P.toArray⟩ : ByteArray) ++ ⟨#[46]⟩) ++ ⟨WL.toArray⟩):=Lib.hid (by rw [HP2.out,if_neg hPe,show (⟨#[46]⟩ : ByteArray) = ⟨([46] : List UInt8).toArray⟩ from rfl,strCat,strCat])
       have n1 : (P == []) = false:=by rw [beq_eq_false_iff_ne]; exact hPe
       have n2 : ¬ P = []:=hPe
       have n3 : P.isEmpty = false:=by simpa using hPe
       have n4 : ¬ P.isEmpty = true:=by simpa using hPe
       obtain ⟨n5,n6⟩:=str_neq (y:=[]) hPe
       have t0 : (⟨([] : List UInt8).toArray⟩ : ByteArray).toList = []:=Lib.toList_data _
       rw [t0] at n5 n6
       have hs0 : (⟨WL.toArray⟩ : ByteArray).size <= 1048866:=by rw [sizeOf_]; omega
       have hs1 : (⟨P.toArray⟩ : ByteArray).size <= 3000000000:=by rw [sizeOf_]; omega
       have hs2 : (⟨#[46]⟩ : ByteArray).size = 1:=rfl
       have hs3 : ((⟨P.toArray⟩ : ByteArray) ++ ⟨#[46]⟩).size <= 3000000001:=by rw [show (⟨#[46]⟩ : ByteArray) = ⟨([46] : List UInt8).toArray⟩ from rfl,strCat,sizeOf_,List.length_append]; rw [sizeOf_] at hs1; simp; omega
       clear HP2 t0
       go_wp2_with fail
       refine hRo.mono ?_
       rintro e w1 ⟨rfl,hb1⟩
       have hb1z:=hb1
       have HBX:=Lib.hid (HBW.out.trans (hb1.mono HBW.out.size))
       have bF:=HBF.out.below hb1 HBF.out.lt
       have y1 : w1.cell? ⟨wr.heap.size,1,none⟩ = some (.string ft):=bF.cell 1
       have y3 : w1.cell? ⟨wr.heap.size,3,none⟩ = some (.slice (some ⟨bf,of,none⟩) KF cf):=bF.cell 3
       have m0:=(hb1.cell (p:=⟨bf,of,none⟩) (cell_lt HM0.out)).trans HM0.out
       clear hb1z hRo HBW
       go_wp2_with fail
       refine (hWo _).mono ?_
       rintro e w2 ⟨rfl,hb2⟩
       have HBY:=Lib.hid (HBX.out.trans (hb2.mono HBX.out.size))
       have y3 : w2.cell? ⟨wr.heap.size,3,none⟩ = some (.slice (some ⟨bf,of,none⟩) KF cf):=(bF.below hb2 bF.lt).cell 3
       have m0:=(hb2.cell (p:=⟨bf,of,none⟩) (cell_lt m0)).trans m0
       clear hb1 hb2 HBX bF HBF HM0 hWo
       go_wp2
       go_roundw
       case rel => exact ⟨i + 2,P2,by omega,by go_num,by rw [HC1.out] <;> rfl,by omega,HS2,HN,HBY⟩
       case measure => first | (simp [intOf]; done) | (simp [intOf]; omega)
     case neg =>
      rw [hr] at hst hRo
      rw [if_neg (by decide),if_neg hk7] at hst
      have HTT:=Lib.hid hst.symm
      clear hst
      have zk:=ibeq hk7
      have zk2:=ibne hk7
      generalize m.k = mk at *
      clear hr3 hr2 hr
      by_cases hPe : P = []
      case pos =>
       subst hPe
       rw [if_pos rfl] at hp2
       have hPP : P2 = WL:=by rw [HP2.out,if_pos rfl,List.nil_append]
       have HC1 : Hid (P2 = WL):=Lib.hid hPP
       have eP : (⟨([] : List UInt8).toArray⟩ : ByteArray) = ⟨#[]⟩:=rfl
       have HC1 : Hid ((⟨P2.toArray⟩ : ByteArray) = (⟨#[]⟩ : ByteArray) ++ ⟨WL.toArray⟩):=Lib.hid (by rw [hPP,<- eP,strCat,List.nil_append])
       have hs0 : (⟨WL.toArray⟩ : ByteArray).size <= 1048866:=by rw [sizeOf_]; omega
       have hs1 : (⟨#[]⟩ : ByteArray).size = 0:=rfl
       rw [eP]
       clear HP2 hPP eP
       go_wp2_with fail
       refine hRo.mono ?_
       rintro e w1 ⟨rfl,hb1⟩
       have hb1z:=hb1
       have HBX:=Lib.hid (HBW.out.trans (hb1.mono HBW.out.size))
       have bF:=HBF.out.below hb1 HBF.out.lt
       have y1 : w1.cell? ⟨wr.heap.size,1,none⟩ = some (.string ft):=bF.cell 1
       have y3 : w1.cell? ⟨wr.heap.size,3,none⟩ = some (.slice (some ⟨bf,of,none⟩) KF cf):=bF.cell 3
       have m0:=(hb1.cell (p:=⟨bf,of,none⟩) (cell_lt HM0.out)).trans HM0.out
       clear hb1z hRo HBW
       go_wp2_with fail
       refine (hWo _).mono ?_
       rintro e w2 ⟨rfl,hb2⟩
       have HBY:=Lib.hid (HBX.out.trans (hb2.mono HBX.out.size))
       have y3 : w2.cell? ⟨wr.heap.size,3,none⟩ = some (.slice (some ⟨bf,of,none⟩) KF cf):=(bF.below hb2 bF.lt).cell 3
       have m0:=(hb2.cell (p:=⟨bf,of,none⟩) (cell_lt m0)).trans m0
       clear hb1 hb2 HBX bF HBF HM0 hWo
       go_wp2
       go_ret2
       exact ⟨tabPost_no HTT.out [],HBY.out⟩
      case neg =>
       rw [if_neg hPe] at hp2
       have HC1 : Hid ((⟨P2.toArray⟩ : ByteArray) = ((⟨P.toArray⟩ : ByteArray) ++ ⟨#[46]⟩) ++ ⟨WL.toArray⟩):=Lib.hid (by rw [HP2.out,if_neg hPe,show (⟨#[46]⟩ : ByteArray) = ⟨([46] : List UInt8).toArray⟩ from rfl,strCat,strCat])
       have n1 : (P == []) = false:=by rw [beq_eq_false_iff_ne]; exact hPe
       have n2 : ¬ P = []:=hPe
       have n3 : P.isEmpty = false:=by simpa using hPe
       have n4 : ¬ P.isEmpty = true:=by simpa using hPe
       obtain ⟨n5,n6⟩:=str_neq (y:=[]) hPe
       have t0 : (⟨([] : List UInt8).toArray⟩ : ByteArray).toList = []:=Lib.toList_data _
       rw [t0] at n5 n6
       have hs0 : (⟨WL.toArray⟩ : ByteArray).size <= 1048866:=by rw [sizeOf_]; omega
       have hs1 : (⟨P.toArray⟩ : ByteArray).size <= 3000000000:=by rw [sizeOf_]; omega
       have hs2 : (⟨#[46]⟩ : ByteArray).size = 1:=rfl
       have hs3 : ((⟨P.toArray⟩ : ByteArray) ++ ⟨#[46]⟩).size <= 3000000001:=by rw [show (⟨#[46]⟩ : ByteArray) = ⟨([46] : List UInt8).toArray⟩ from rfl,strCat,sizeOf_,List.length_append]; rw [sizeOf_] at hs1; simp; omega
       clear HP2 t0
       go_wp2_with fail
       refine hRo.mono ?_
       rintro e w1 ⟨rfl,hb1⟩
       have hb1z:=hb1
       have HBX:=Lib.hid (HBW.out.trans (hb1.mono HBW.out.size))
       have bF:=HBF.out.below hb1 HBF.out.lt
       have y1 : w1.cell? ⟨wr.heap.size,1,none⟩ = some (.string ft):=bF.cell 1
       have y3 : w1.cell? ⟨wr.heap.size,3,none⟩ = some (.slice (some ⟨bf,of,none⟩) KF cf):=bF.cell 3
       have m0:=(hb1.cell (p:=⟨bf,of,none⟩) (cell_lt HM0.out)).trans HM0.out
       clear hb1z hRo HBW
       go_wp2_with fail
       refine (hWo _).mono ?_
       rintro e w2 ⟨rfl,hb2⟩
       have HBY:=Lib.hid (HBX.out.trans (hb2.mono HBX.out.size))
       have y3 : w2.cell? ⟨wr.heap.size,3,none⟩ = some (.slice (some ⟨bf,of,none⟩) KF cf):=(bF.below hb2 bF.lt).cell 3
       have m0:=(hb2.cell (p:=⟨bf,of,none⟩) (cell_lt m0)).trans m0
       clear hb1 hb2 HBX bF HBF HM0 hWo
       go_wp2
       go_ret2
       exact ⟨tabPost_no HTT.out [],HBY.out⟩
theorem deep_eq (f : Nd) : deepF f = (rowsB (f.kids.getD 0 dNd) || decide ((f.kids.getD 0 dNd).k = 7)):=by
 unfold deepF
 cases hr : rowsB (f.kids.getD 0 dNd) with
 | true => rw [Bool.true_or]; exact decide_eq_true (brk_pos.2 (.inl hr))
 | false =>
  rw [Bool.false_or,decide_eq_decide,brk_pos,hr]
  simp
set_option maxHeartbeats 4000000 in
theorem rdeep_any (f : Nd) (hp : 0 < f.kids.length) : AskAt 134 deepF f:=by
 intro S A c w hA
 rw [deep_eq]
 have al:=al_nd w #[.int .i64 f.k,.string f.t,.string f.v,.slice A f.kids.length c]
 have bF:=Blk.new w 24 #[.int .i64 f.k,.string f.t,.string f.v,.slice A f.kids.length c]
 obtain ⟨y0,y1,y2,y3⟩:=nbox bF
 obtain ⟨hfc,hfm,hfk⟩:=(NAt.def_ _ _ _).1 hA
 obtain ⟨bf,of,rfl,_,hkid⟩:=hfk hp
 have hm:=hkid 0 hp
 rw [<- getDn hp] at hm
 simp only [Nat.zero_mul,Nat.add_zero] at hm
 obtain ⟨Bm,cm,m0,m1,m2,m3,hnm⟩:=kid_cells hm al
 have hfm2 : c <= 9223372036854775807:=by simpa [maxLen] using hfm
 have hcf0 : 0 < c:=by omega
 have hkp2 : (0 : Int) < f.kids.length:=by omega
 clear hkid hfk hm hA
 generalize f.kids.getD 0 dNd = m at *
 generalize f.kids.length = KF at *
 have hRo:=rrows_any m S Bm cm _ hnm
 have HAL:=Lib.hid al
 have HBF:=Lib.hid bF
 have HM0:=Lib.hid m0
 clear hnm al bF
 cases hr : rowsB m with
 | true =>
  rw [hr] at hRo
  rw [Bool.true_or]
  go_enter Tryz.func134,Tryz.ntmps134
  go_wp2_with fail
  refine hRo.mono ?_
  rintro e w1 ⟨rfl,hb1⟩
  have HB:=Lib.hid (HAL.out.trans (hb1.mono HAL.out.size))
  clear hb1 hRo
  go_wp2
  go_ret
  exact ⟨rfl,HB.out⟩
 | false =>
  rw [hr] at hRo
  rw [Bool.false_or]
  by_cases hk : m.k = 7
  case pos =>
   rw [decide_eq_true hk]
   have HM1:=HM0.out
   rw [hk] at m0 hRo HM1
   go_enter Tryz.func134,Tryz.ntmps134
   go_wp2_with fail
   refine hRo.mono ?_
   rintro e w1 ⟨rfl,hb1⟩
   have HB:=Lib.hid (HAL.out.trans (hb1.mono HAL.out.size))
   have y3 : w1.cell? ⟨w.heap.size,3,none⟩ = some (.slice (some ⟨bf,of,none⟩) KF c):=(HBF.out.below hb1 HBF.out.lt).cell 3
   have m0:=(hb1.cell (p:=⟨bf,of,none⟩) (cell_lt HM1)).trans HM1
   clear hb1 hRo HM1 HM0
   go_wp2
   go_ret
   exact ⟨rfl,HB.out⟩
  case neg =>
   rw [decide_eq_false hk]
   have zk:=ibeq hk
   have HM1:=HM0.out
   generalize m.k = mk at *
   go_enter Tryz.func134,Tryz.ntmps134
   go_wp2_with fail
   refine hRo.mono ?_
   rintro e w1 ⟨rfl,hb1⟩
   have HB:=Lib.hid (HAL.out.trans (hb1.mono HAL.out.size))
   have y3 : w1.cell? ⟨w.heap.size,3,none⟩ = some (.slice (some ⟨bf,of,none⟩) KF c):=(HBF.out.below hb1 HBF.out.lt).cell 3
   have m0:=(hb1.cell (p:=⟨bf,of,none⟩) (cell_lt HM1)).trans HM1
   clear hb1 hRo HM1 HM0
   go_wp2
   go_ret
   exact ⟨rfl,HB.out⟩
end Go.Proofs.YtbnppjmmlfncmaaGreatDoor
