/-
  carry: Of, given what its search does.
  carry: Row; the law's own examples.
  carry's law: two places that are the same; Of of program and reference, side by side.
  carry: whether a text is raw, the program's.
  carry: isRaw, by way of the library's ContainsFunc.
  slices.Index and slices.Contains at strings.
-/
import Derived.Test.YtbnppjmmlfncmaaGreatDoorCsA29
import Derived.Test.YtbnppjmmlfncmaaGreatDoorCsA15
import Derived.Test.YtbnppjmmlfncmaaGreatDoorCsA28
import Derived.Test.YtbnppjmmlfncmaaGreatDoorCsA04
import Derived.BigQuiet
import Derived.Test.YtbnppjmmlfncmaaGreatDoorCsA08
import Derived.Lib.OthersKept
import Derived.Lib.TrimU
import Derived.Lib.SpaceUEq
import Derived.Deep.LoopGhost
import Derived.Test.YtbnppjmmlfncmaaGreatDoorCsA03
import Derived.Test.YtbnppjmmlfncmaaGreatDoorCsA11
set_option maxRecDepth 1000000
set_option linter.unusedSimpArgs false
set_option linter.unusedVariables false
namespace Go.Proofs.YtbnppjmmlfncmaaGreatDoor
open Go.RowKit Go.Maps
theorem NAt.upp {n : Nd} {A : Option Addr} {c : Nat} {w w' : World} (h : NAt (fun b _ => b < w.heap.size) w n A c) (hb : Below w.heap.size w w') : NAt (fun b _ => b < w'.heap.size) w' n A c :=
 (h.below hb).weaken fun _ _ hlt => Nat.lt_of_lt_of_le hlt hb.size
def RootAt (x : Int) (n : Nd) (r : Option (List Nat)) : Prop:=∀ (s : Nat) (path : List Nat) (g : Option Nat) (A : Option Addr) (c : Nat) (w : World),SI s w path g -> NAt (fun b _ => b < s) w n A c -> path.length + sizeN n <= 100000 ->
    Calls Tryz.prog 29 #[.pointer (some ⟨s,0,none⟩),.int .i64 x,.agg #[.int .i64 n.k,.string n.t,.string n.v,.slice A n.kids.length c]] w (VPost s path g w r)
theorem ofc_any (x : Int) (n : Nd) (r : Option (List Nat)) (hr : RootAt x n r) (s : Nat) (path : List Nat) (g : Option Nat) (A : Option Addr) (c : Nat) (w : World) (hi : SI s w path g) (hA : NAt (fun b _ => b < s) w n A c) (hl : path.length + sizeN n <= 100000)
 (b1 b2 : Nat) (h1 : Blk w b1 3 #[.int .i64 x]) (h2 : Blk w b2 24 #[.int .i64 n.k,.string n.t,.string n.v,.slice A n.kids.length c]) :
 Calls Tryz.prog 28 #[.pointer (some ⟨s,0,none⟩),.pointer (some ⟨b1,0,none⟩),.pointer (some ⟨b2,0,none⟩)] w (VPost s path g w r):=by
 have hR:=hr s path g A c w hi hA hl
 have c0 : w.cell? ⟨b1,0,none⟩ = some (.int .i64 x):=h1.cell 0
 obtain ⟨z0,z1,z2,z3⟩:=nbox h2
 clear hi hA hl h1 h2 hr
 go_enter Tryz.func28,Tryz.ntmps28
 go_wp2_with fail
 refine hR.mono ?_
 rintro e w1 (⟨hr,rfl,h⟩ | ⟨q,v,hr,rfl,h⟩)
 ·go_wp2
  go_end0
  exact .inl ⟨hr,rfl,h⟩
 ·exact ⟨rfl,.inr ⟨q,v,hr,rfl,h⟩⟩
theorem of_no (x : Int) (hx : x < 1 \/ 6 < x) (n : Nd) (A : Option Addr) (c : Nat) (w : World) :
 Calls Tryz.prog 11 #[.int .i64 x,.agg #[.int .i64 n.k,.string n.t,.string n.v,.slice A n.kids.length c]] w fun e w' => e = .returned (.tuple #[.slice none 0 0,.int .i64 50]) /\ Below w.heap.size w w':=by
 have hb : Below w.heap.size w ((w.alloc (.cells #[.int .i64 x] 3)).alloc (.cells #[.int .i64 n.k,.string n.t,.string n.v,.slice A n.kids.length c] 24)):=((Below.refl _ _).alloc (Nat.le_refl _) _).alloc (by simp) _
 by_cases h1 : x < 1
 ·go_enter Tryz.func11,Tryz.ntmps11
  go_wp2
  go_ret2
  exact ⟨rfl,hb⟩
 ·have h6 : 6 < x:=by omega
  go_enter Tryz.func11,Tryz.ntmps11
  go_wp2
  go_ret2
  exact ⟨rfl,hb⟩
def OfPost (x : Int) (n : Nd) (r : Option (List Nat)) (w : World) (e : Ending) (w' : World) : Prop :=
 ∃ v,e = .returned (.tuple #[v,.int .i64 (if mayN n = 0 then (if r.isSome = true then 20 else 0) else mayN n)]) /\ IRead w' v (if mayN n = 0 then iP (r.getD []) else []) /\ Below w.heap.size w w'
set_option maxHeartbeats 4000000 in
theorem of_gen (x : Int) (hx : 1 <= x /\ x <= 6) (n : Nd) (r : Option (List Nat)) (hr : mayN n = 0 -> RootAt x n r) (A : Option Addr) (c : Nat) (w : World) (hw : Nm.StdW w) (hA : NAt (fun b _ => b < w.heap.size) w n A c) (ho : okT n) (hz : sizeN n <= 90000) :
 Calls Tryz.prog 11 #[.int .i64 x,.agg #[.int .i64 n.k,.string n.t,.string n.v,.slice A n.kids.length c]] w (OfPost x n r w):=by
 have hb : Below w.heap.size w ((w.alloc (.cells #[.int .i64 x] 3)).alloc (.cells #[.int .i64 n.k,.string n.t,.string n.v,.slice A n.kids.length c] 24)):=((Below.refl _ _).alloc (Nat.le_refl _) _).alloc (by simp) _
 have b1 : Blk ((w.alloc (.cells #[.int .i64 x] 3)).alloc (.cells #[.int .i64 n.k,.string n.t,.string n.v,.slice A n.kids.length c] 24)) w.heap.size 3 #[.int .i64 x]:=(Blk.new w _ _).alloc _
 have b2 : Blk ((w.alloc (.cells #[.int .i64 x] 3)).alloc (.cells #[.int .i64 n.k,.string n.t,.string n.v,.slice A n.kids.length c] 24)) (w.heap.size + 1) 24 #[.int .i64 n.k,.string n.t,.string n.v,.slice A n.kids.length c]:=by
  have:=Blk.new (w.alloc (.cells #[.int .i64 x] 3)) 24 #[.int .i64 n.k,.string n.t,.string n.v,.slice A n.kids.length c]
  rw [World.size_alloc] at this
  exact this
 obtain ⟨W0,hW0⟩ : ∃ W0,(w.alloc (.cells #[.int .i64 x] 3)).alloc (.cells #[.int .i64 n.k,.string n.t,.string n.v,.slice A n.kids.length c] 24) = W0:=⟨_,rfl⟩
 rw [hW0] at hb b1 b2
 have hA0:=hA.upp hb
 have hM:=tmay_any n A c W0 n.k n.t n.v n.kids.length ⟨rfl,rfl,rfl,rfl⟩ ho hA0 (hw.below hb)
 have x0 : W0.cell? ⟨w.heap.size,0,none⟩ = some (.int .i64 x):=b1.cell 0
 obtain ⟨z0,z1,z2,z3⟩:=nbox b2
 have hx1 : ¬ x < 1:=by omega
 have hx6 : ¬ 6 < x:=by omega
 have B1:=Lib.hid b1
 have B2:=Lib.hid b2
 have HB:=Lib.hid hb
 have HA0:=Lib.hid hA0
 unfold OfPost
 obtain ⟨E,hE⟩ : ∃ E,mayN n = E:=⟨_,rfl⟩
 rw [hE] at hM hr ⊢
 clear b1 b2 hb hA hA0 hx ho
 by_cases h0 : E = 0
 case neg =>
  have z5:=ibeq h0
  have z6:=ibne h0
  rw [if_neg h0,if_neg h0]
  clear hr h0
  go_enter Tryz.func11,Tryz.ntmps11
  go_wp2_with fail
  refine hM.mono ?_
  rintro e w1 ⟨rfl,hb1⟩
  have HB1:=Lib.hid (HB.out.trans (hb1.mono HB.out.size))
  clear hb1 hM hW0
  go_wp2
  go_ret2
  exact ⟨_,rfl,IRead.nil _ _,HB1.out⟩
 case pos =>
  subst h0
  have HRT:=Lib.hid (hr rfl)
  rw [if_pos rfl,if_pos rfl]
  obtain ⟨ER,hER⟩ : ∃ ER : Int,(if r.isSome = true then 20 else 0) = ER:=⟨_,rfl⟩
  obtain ⟨RP,hRP⟩ : ∃ RP,iP (r.getD []) = RP:=⟨_,rfl⟩
  rw [hER,hRP]
  have HER:=Lib.hid hER
  have HRP:=Lib.hid hRP
  clear hr hER hRP
  go_enter Tryz.func11,Tryz.ntmps11
  go_wp2_with fail
  refine hM.mono ?_
  rintro e w1 ⟨rfl,hb1⟩
  have hlo:=(findW_below w1)
  have hA1:=(HA0.out.upp hb1).below hlo
  have hC:=ofc_any x n r HRT.out (w1.heap.size + 2) [] none A c (findW w1) (findW_si w1) (hA1.weaken fun b _ h => by omega) (by simp; omega) w.heap.size (w.heap.size + 1) ((B1.out.below hb1 B1.out.lt).below hlo (by have:=B1.out.lt; have:=hb1.size; omega)) ((B2.out.below hb1 B2.out.lt).below hlo (by have:=B2.out.lt; have:=hb1.size; omega))
  have hF:=find_any w1 28 #[] #[.pointer (some ⟨w.heap.size,0,none⟩),.pointer (some ⟨w.heap.size + 1,0,none⟩)] (fun _ _ => rfl) r (by simpa using hC)
  have HB1:=Lib.hid (HB.out.trans (hb1.mono HB.out.size))
  unfold FindPost at hF
  rw [HER.out,HRP.out] at hF
  clear hb1 hM hW0 hC hA1 hlo HRT HER HRP
  go_wp2_with fail
  refine hF.mono ?_
  rintro e w2 ⟨v,rfl,hI,hb2⟩
  have HB2:=Lib.hid (HB1.out.trans (hb2.mono HB1.out.size))
  have HI:=Lib.hid hI
  clear hI hb2 hF
  go_wp2
  go_ret2
  exact ⟨_,rfl,HI.out,HB2.out⟩
theorem root6 (n : Nd) : RootAt 6 n none:=by
 intro s path g A c w hi hA hl
 have al:=al_nd w #[.int .i64 n.k,.string n.t,.string n.v,.slice A n.kids.length c]
 go_enter Tryz.func29,Tryz.ntmps29
 go_wp2
 go_end0
 exact .inl ⟨rfl,rfl,g,hi.below al,FrS.of_below al⟩
theorem delim_no (n : Nd) (hk : n.k ≠ 5) (s : Nat) (path : List Nat) (g : Option Nat) (A : Option Addr) (c : Nat) (w : World) (hi : SI s w path g) :
 Calls Tryz.prog 51 #[.pointer (some ⟨s,0,none⟩),.agg #[.int .i64 n.k,.string n.t,.string n.v,.slice A n.kids.length c]] w (VPost s path g w (some [])):=by
 have al : Below w.heap.size w ((w.alloc (.cells #[.pointer (some ⟨s,0,none⟩)] 51)).alloc (.cells #[.int .i64 n.k,.string n.t,.string n.v,.slice A n.kids.length c] 24)):=((Below.refl _ _).alloc (Nat.le_refl _) _).alloc (by simp) _
 have hR:=refuse_yes s path g _ (hi.below al)
 have HL : Hid (Below s w _):=Lib.hid (al.mono (Nat.le_of_lt hi.lt))
 have HS:=Lib.hid hi.lt
 have z1:=ibne hk
 have z2:=ibeq hk
 generalize n.k = k at *
 clear hi hk al
 go_enter Tryz.func51,Tryz.ntmps51
 go_wp2_with fail
 refine hR.mono ?_
 rintro e w1 ⟨v,rfl,ho,hb⟩
 exact ⟨rfl,.inr ⟨[],v,rfl,rfl,by rw [List.append_nil]; exact ho,HL.out.trans (hb.mono (by have:=HS.out; simp; omega))⟩⟩
theorem root5no (n : Nd) (hk : n.k ≠ 5) : RootAt 5 n (some []):=by
 intro s path g A c w hi hA hl
 have al:=al_nd w #[.int .i64 n.k,.string n.t,.string n.v,.slice A n.kids.length c]
 have hD:=delim_no n hk s path g A c _ (hi.below al)
 have HI:=Lib.hid hi
 have HF : Hid (FrS s g w _ g):=Lib.hid (FrS.of_below al)
 clear hi hA al
 go_enter Tryz.func29,Tryz.ntmps29
 go_wp2_with fail
 refine hD.mono ?_
 rintro e w1 h
 have h2:=VPost.pre HI.out HF.out h
 rcases h with ⟨h,_⟩ | ⟨q,v,hr,rfl,_⟩
 ·cases h
 ·exact ⟨rfl,h2⟩
def rowText (n : Nd) : List UInt8:=if mayN n = 0 /\ elemN n = false then rowN n else []
def rowErr (n : Nd) : Int:=if mayN n = 0 then (if elemN n = true then 20 else 0) else mayN n
set_option maxHeartbeats 4000000 in
theorem crow_any (n : Nd) (A : Option Addr) (c : Nat) (w : World) (hw : Nm.StdW w) (hA : NAt (fun b _ => b < w.heap.size) w n A c) (ho : okT n) (hs : smallT n) (hz : sizeN n <= 90000) :
 Calls Tryz.prog 24 #[.agg #[.int .i64 n.k,.string n.t,.string n.v,.slice A n.kids.length c]] w fun e w' => e = .returned (.tuple #[.string ⟨(rowText n).toArray⟩,.int .i64 (rowErr n)]) /\ Below w.heap.size w w':=by
 have b2:=Blk.new w 24 #[.int .i64 n.k,.string n.t,.string n.v,.slice A n.kids.length c]
 have hb:=al_nd w #[.int .i64 n.k,.string n.t,.string n.v,.slice A n.kids.length c]
 obtain ⟨W0,hW0⟩ : ∃ W0,w.alloc (.cells #[.int .i64 n.k,.string n.t,.string n.v,.slice A n.kids.length c] 24) = W0:=⟨_,rfl⟩
 rw [hW0] at hb b2
 have hA0:=hA.upp hb
 have hM:=tmay_any n A c W0 n.k n.t n.v n.kids.length ⟨rfl,rfl,rfl,rfl⟩ ho hA0 (hw.below hb)
 obtain ⟨z0,z1,z2,z3⟩:=nbox b2
 have B2:=Lib.hid b2
 have HB:=Lib.hid hb
 have HA0:=Lib.hid hA0
 have HSH : Hid (mayN n = 0 -> shaped n = true):=Lib.hid fun h => (may_shaped h).1
 have HSZ : Hid (sizeN n * 1048900 <= 100000000000):=Lib.hid (by omega)
 have hT : ∀ E,mayN n = E -> rowText n = (if E = 0 /\ elemN n = false then rowN n else []) /\ rowErr n = (if E = 0 then (if elemN n = true then 20 else 0) else E):=by rintro E rfl; exact ⟨rfl,rfl⟩
 obtain ⟨E,hE⟩ : ∃ E,mayN n = E:=⟨_,rfl⟩
 obtain ⟨hT1,hT2⟩:=hT E hE
 rw [hT1,hT2]
 rw [hE] at hM HSH
 clear b2 hb hA hA0 ho hE hT hT1 hT2
 by_cases h0 : E = 0
 case neg =>
  have z5:=ibeq h0
  have z6:=ibne h0
  rw [if_neg h0,if_neg (fun h => h0 h.1)]
  clear h0 HSH
  go_enter Tryz.func24,Tryz.ntmps24
  go_wp2_with fail
  refine hM.mono ?_
  rintro e w1 ⟨rfl,hb1⟩
  have HB1:=Lib.hid (HB.out.trans (hb1.mono HB.out.size))
  clear hb1 hM hW0
  go_wp2
  go_ret2
  exact ⟨rfl,HB1.out⟩
 case pos =>
  subst h0
  have HE:=fun (w1 : World) h => elem_any n (fun b _ => b < w1.heap.size) A c w1 h
  have HF:=form_any n
  unfold FormAt FormPost at HF
  have hsh:=HSH.out rfl
  cases he : elemN n with
  | true =>
   rw [he] at HE
   rw [show (if (0 : Int) = 0 /\ true = false then rowN n else []) = [] from by simp,show (if (0 : Int) = 0 then (if true = true then (20 : Int) else 0) else 0) = 20 from by simp]
   clear HF he HSH
   go_enter Tryz.func24,Tryz.ntmps24
   go_wp2_with fail
   refine hM.mono ?_
   rintro e w1 ⟨rfl,hb1⟩
   have HB1:=Lib.hid (HB.out.trans (hb1.mono HB.out.size))
   obtain ⟨z0,z1,z2,z3⟩:=nbox (B2.out.below hb1 B2.out.lt)
   have hE1:=HE w1 (HA0.out.upp hb1)
   clear hb1 hM hW0 HE
   go_wp2_with fail
   refine hE1.mono ?_
   rintro e w2 ⟨rfl,hb2⟩
   have HB2:=Lib.hid (HB1.out.trans (hb2.mono HB1.out.size))
   clear hb2 hE1
   go_wp2
   go_ret2
   exact ⟨rfl,HB2.out⟩
  | false =>
   rw [he] at HE
   rw [show (if (0 : Int) = 0 /\ false = false then rowN n else []) = rowN n from by simp,show (if (0 : Int) = 0 then (if false = true then (20 : Int) else 0) else 0) = 0 from by simp]
   clear he HSH
   have HF1:=fun (w1 : World) (h : NAt (fun b _ => b < w1.heap.size) w1 n A c) => HF w1.heap.size (.slice none 0 0) [] A c w1 h hs hsh (ORow.nil _ _ _) (Nat.le_refl _) (by have:=HSZ.out; simp; omega)
   simp only [List.nil_append] at HF1
   generalize rowN n = RN at *
   clear HF
   go_enter Tryz.func24,Tryz.ntmps24
   go_wp2_with fail
   refine hM.mono ?_
   rintro e w1 ⟨rfl,hb1⟩
   have HB1:=Lib.hid (HB.out.trans (hb1.mono HB.out.size))
   have hB1:=B2.out.below hb1 B2.out.lt
   obtain ⟨z0,z1,z2,z3⟩:=nbox hB1
   have hA1:=HA0.out.upp hb1
   have hE1:=HE w1 hA1
   clear hb1 hM hW0 HE
   go_wp2_with fail
   refine hE1.mono ?_
   rintro e w2 ⟨rfl,hb2⟩
   have HB2:=Lib.hid (HB1.out.trans (hb2.mono HB1.out.size))
   obtain ⟨z0,z1,z2,z3⟩:=nbox (hB1.below hb2 hB1.lt)
   have hF2:=HF1 w2 (hA1.upp hb2)
   clear hb2 hE1 hB1 hA1 HF1
   go_wp2_with fail
   refine hF2.mono ?_
   rintro e w3 ⟨v3,rfl,ho3,hb3⟩
   have HB3:=Lib.hid (HB2.out.trans (hb3.mono HB2.out.size))
   have hstr:=put_str _ ho3
   clear hb3 hF2
   go_wp2
   go_ret2
   exact ⟨rfl,HB3.out⟩
def liveC : Nd:=.mk 7 ⟨#[]⟩ ⟨#[]⟩ [.mk 8 ⟨#[97,32,98]⟩ ⟨#[]⟩ [.mk 5 ⟨#[]⟩ ⟨#[]⟩ [.mk 3 ⟨#[49]⟩ ⟨#[]⟩ [],.mk 4 ⟨#[120]⟩ ⟨#[]⟩ []]]]
theorem liveC_may : mayN liveC = 0:=by decide +kernel
theorem liveC_row : rowText liveC = [123,34,97,32,98,34,32,61,32,91,49,44,32,34,120,34,93,125]:=by decide +kernel
theorem liveC_err : rowErr liveC = 0:=by decide +kernel
theorem liveC_word : wordL [97,32,98] = [34,97,32,98,34]:=by decide +kernel
theorem liveC_werr : (if localL [97,32,98] = true /\ (46 : UInt8) ∉ ([97,32,98] : List UInt8) then (0 : Int) else Qt.prErr [97,32,98]) = 0:=by decide +kernel
theorem liveC_ok : okT liveC:=by simp [liveC,okT,okTL,okN,Nd.k,Nd.t,Nd.v,ByteArray.size]
theorem liveC_small : smallT liveC:=by simp [liveC,smallT,smallL,ByteArray.size]
theorem liveC_size : sizeN liveC <= 90000:=by decide
def liveW (w : World) : World:=((w.alloc (.cells #[.int .i64 3,.string ⟨#[49]⟩,.string ⟨#[]⟩,.slice none 0 0,.int .i64 4,.string ⟨#[120]⟩,.string ⟨#[]⟩,.slice none 0 0] 24)).alloc (.cells #[.int .i64 5,.string ⟨#[]⟩,.string ⟨#[]⟩,.slice (some ⟨w.heap.size,0,none⟩) 2 2] 24)).alloc (.cells #[.int .i64 8,.string ⟨#[97,32,98]⟩,.string ⟨#[]⟩,.slice (some ⟨w.heap.size + 1,0,none⟩) 1 1] 24)
theorem liveW_below (w : World) : Below w.heap.size w (liveW w):=(((Below.refl _ _).alloc (Nat.le_refl _) _).alloc (by simp) _).alloc (by simp; omega) _
theorem liveW_at (w : World) : NAt (fun b _ => b < (liveW w).heap.size) (liveW w) liveC (some ⟨w.heap.size + 2,0,none⟩) 1:=by
 have hs : (liveW w).heap.size = w.heap.size + 3:=by simp [liveW]
 have b0 : Blk (liveW w) w.heap.size 24 #[.int .i64 3,.string ⟨#[49]⟩,.string ⟨#[]⟩,.slice none 0 0,.int .i64 4,.string ⟨#[120]⟩,.string ⟨#[]⟩,.slice none 0 0]:=((Blk.new w _ _).alloc _).alloc _
 have b1 : Blk (liveW w) (w.heap.size + 1) 24 #[.int .i64 5,.string ⟨#[]⟩,.string ⟨#[]⟩,.slice (some ⟨w.heap.size,0,none⟩) 2 2]:=by
  have:=Blk.new (w.alloc (.cells #[.int .i64 3,.string ⟨#[49]⟩,.string ⟨#[]⟩,.slice none 0 0,.int .i64 4,.string ⟨#[120]⟩,.string ⟨#[]⟩,.slice none 0 0] 24)) 24 #[.int .i64 5,.string ⟨#[]⟩,.string ⟨#[]⟩,.slice (some ⟨w.heap.size,0,none⟩) 2 2]
  rw [World.size_alloc] at this
  exact this.alloc _
 have b2 : Blk (liveW w) (w.heap.size + 2) 24 #[.int .i64 8,.string ⟨#[97,32,98]⟩,.string ⟨#[]⟩,.slice (some ⟨w.heap.size + 1,0,none⟩) 1 1]:=by
  have:=Blk.new ((w.alloc (.cells #[.int .i64 3,.string ⟨#[49]⟩,.string ⟨#[]⟩,.slice none 0 0,.int .i64 4,.string ⟨#[120]⟩,.string ⟨#[]⟩,.slice none 0 0] 24)).alloc (.cells #[.int .i64 5,.string ⟨#[]⟩,.string ⟨#[]⟩,.slice (some ⟨w.heap.size,0,none⟩) 2 2] 24)) 24 #[.int .i64 8,.string ⟨#[97,32,98]⟩,.string ⟨#[]⟩,.slice (some ⟨w.heap.size + 1,0,none⟩) 1 1]
  rw [World.size_alloc,World.size_alloc] at this
  exact this
 rw [NAt.def_]
 refine ⟨Nat.le_refl _,by decide,fun _ => ⟨w.heap.size + 2,0,rfl,by omega,fun j hj => ?_⟩⟩
 obtain rfl : j = 0:=by simpa [liveC,Nd.kids] using hj
 refine ⟨some ⟨w.heap.size + 1,0,none⟩,1,b2.cell 0,b2.cell 1,b2.cell 2,b2.cell 3,?_⟩
 rw [NAt.def_]
 refine ⟨Nat.le_refl _,by decide,fun _ => ⟨w.heap.size + 1,0,rfl,by omega,fun j hj => ?_⟩⟩
 obtain rfl : j = 0:=by simpa [liveC,Nd.kids] using hj
 refine ⟨some ⟨w.heap.size,0,none⟩,2,b1.cell 0,b1.cell 1,b1.cell 2,b1.cell 3,?_⟩
 rw [NAt.def_]
 refine ⟨Nat.le_refl _,by decide,fun _ => ⟨w.heap.size,0,rfl,by omega,fun j hj => ?_⟩⟩
 have hj2 : j < 2:=by simpa [liveC,Nd.kids] using hj
 match j,hj2 with
 | 0,_ => exact ⟨none,0,b0.cell 0,b0.cell 1,b0.cell 2,b0.cell 3,NAt.leaf _ _ _ _ _ _⟩
 | 1,_ => exact ⟨none,0,b0.cell 4,b0.cell 5,b0.cell 6,b0.cell 7,NAt.leaf _ _ _ _ _ _⟩
theorem iread_nil {w : World} {v : Value} (h : IRead w v []) : ∃ A c,v = .slice A 0 c:=by obtain ⟨A,c,hv,_⟩:=h; exact ⟨A,c,hv⟩
set_option maxHeartbeats 8000000 in
theorem clives_any (w : World) (hw : Nm.StdW w) : Calls Tryz.prog 10 #[] w fun e w' => e = .returned (.bool true) /\ Below w.heap.size w w':=by
 have hN:=liveW_at w
 have hb0:=liveW_below w
 have hsz : (liveW w).heap.size = w.heap.size + 3:=by simp [liveW]
 obtain ⟨W1,hW1⟩ : ∃ W1,(liveW w).alloc (.cells #[.int .i64 7,.string ⟨#[]⟩,.string ⟨#[]⟩,.slice (some ⟨w.heap.size + 2,0,none⟩) 1 1] 24) = W1:=⟨_,rfl⟩
 have bX:=Blk.new (liveW w) 24 #[.int .i64 7,.string ⟨#[]⟩,.string ⟨#[]⟩,.slice (some ⟨w.heap.size + 2,0,none⟩) 1 1]
 have al1:=al_nd (liveW w) #[.int .i64 7,.string ⟨#[]⟩,.string ⟨#[]⟩,.slice (some ⟨w.heap.size + 2,0,none⟩) 1 1]
 rw [hW1] at bX al1
 rw [hsz] at bX
 have hN1:=hN.upp al1
 have hb1:=hb0.trans (al1.mono hb0.size)
 have box : ∀ w',Below W1.heap.size W1 w' -> w'.cell? ⟨w.heap.size + 3,0,none⟩ = some (.int .i64 7) /\ w'.cell? ⟨w.heap.size + 3,1,none⟩ = some (.string ⟨#[]⟩) /\ w'.cell? ⟨w.heap.size + 3,2,none⟩ = some (.string ⟨#[]⟩) /\ w'.cell? ⟨w.heap.size + 3,3,none⟩ = some (.slice (some ⟨w.heap.size + 2,0,none⟩) 1 1):=fun w' h => by
  have:=bX.below h bX.lt
  exact ⟨this.cell 0,this.cell 1,this.cell 2,this.cell 3⟩
 have cR:=fun (w' : World) (h : Below W1.heap.size W1 w') => crow_any liveC _ _ w' (hw.below (hb1.trans (h.mono hb1.size))) (hN1.upp h) liveC_ok liveC_small liveC_size
 rw [liveC_row,liveC_err] at cR
 have cW:=fun (w' : World) => word_any ⟨#[97,32,98]⟩ w' (by decide)
 unfold WordEnd at cW
 have hw1 : wordL (⟨#[97,32,98]⟩ : ByteArray).data.toList = [34,97,32,98,34]:=liveC_word
 have hw2 : (if localL (⟨#[97,32,98]⟩ : ByteArray).data.toList = true /\ (46 : UInt8) ∉ (⟨#[97,32,98]⟩ : ByteArray).data.toList then (0 : Int) else Qt.prErr (⟨#[97,32,98]⟩ : ByteArray).data.toList) = 0:=liveC_werr
 rw [hw1,hw2] at cW
 have c7:=fun (w' : World) => of_no 7 (by omega) liveC (some ⟨w.heap.size + 2,0,none⟩) 1 w'
 have c5:=fun (w' : World) (h : Below W1.heap.size W1 w') => of_gen 5 (by omega) liveC _ (fun _ => root5no liveC (by decide)) _ _ w' (hw.below (hb1.trans (h.mono hb1.size))) (hN1.upp h) liveC_ok liveC_size
 have c6:=fun (w' : World) (h : Below W1.heap.size W1 w') => of_gen 6 (by omega) liveC _ (fun _ => root6 liveC) _ _ w' (hw.below (hb1.trans (h.mono hb1.size))) (hN1.upp h) liveC_ok liveC_size
 unfold OfPost at c5 c6
 rw [liveC_may] at c5 c6
 simp only [if_true,Option.isSome,Option.getD,iP,List.map_nil,if_false,Bool.false_eq_true] at c5 c6
 obtain ⟨x0,x1,x2,x3⟩:=box W1 (Below.refl _ _)
 have HB1:=Lib.hid hb1
 clear hN hb0 al1 bX hN1 hb1 hw1 hw2
 unfold liveW at hW1
 have hcR:=cR W1 (Below.refl _ _)
 clear cR
 go_enter Tryz.func10,Tryz.ntmps10
 go_wp2_with fail
 refine hcR.mono ?_
 rintro e w2 ⟨rfl,hb2⟩
 clear hcR hW1 x0 x1 x2 x3
 go_wp2_with fail
 refine (cW w2).mono ?_
 rintro e w3 ⟨rfl,hb3⟩
 have h3:=hb2.trans (hb3.mono hb2.size)
 obtain ⟨x0,x1,x2,x3⟩:=box w3 h3
 clear hb2 hb3 cW
 go_wp2_with fail
 refine (c7 w3).mono ?_
 rintro e w4 ⟨rfl,hb4⟩
 have h4:=h3.trans (hb4.mono h3.size)
 obtain ⟨x0,x1,x2,x3⟩:=box w4 h4
 have hc5:=c5 w4 h4
 clear hb4 h3 c7 c5
 go_wp2_with fail
 refine hc5.mono ?_
 rintro e w5 ⟨v5,rfl,hv5,hb5⟩
 have h5:=h4.trans (hb5.mono h4.size)
 obtain ⟨A5,q5,rfl⟩:=iread_nil hv5
 obtain ⟨x0,x1,x2,x3⟩:=box w5 h5
 have hc6:=c6 w5 h5
 clear hb5 h4 c6 hc5 hv5
 go_wp2_with fail
 refine hc6.mono ?_
 rintro e w6 ⟨v6,rfl,hv6,hb6⟩
 have H6:=Lib.hid (HB1.out.trans ((h5.trans (hb6.mono h5.size)).mono HB1.out.size))
 clear hb6 h5 hc6 hv6 box hsz x0 x1 x2 x3
 go_wp2
 go_ret
 exact ⟨rfl,H6.out⟩
set_option maxHeartbeats 2000000 in
theorem same_yes (va vb : Value) (xs : List Int) (w : World) (ha : IRead w va xs) (hb : IRead w vb xs) (hl : xs.length <= 100000000) :
 Calls Tryz.prog 13 #[va,vb] w fun e w' => e = .returned (.bool true) /\ Below w.heap.size w w':=by
 obtain ⟨A,c,rfl,hA⟩:=ha
 obtain ⟨B,d,rfl,hB⟩:=hb
 have HA:=Lib.hid hA
 have HB:=Lib.hid hB
 clear hA hB
 obtain ⟨n,hn⟩ : ∃ n,xs.length = n:=⟨_,rfl⟩
 rw [hn] at hl ⊢
 have HN:=Lib.hid hn
 clear hn
 go_enter Tryz.func13,Tryz.ntmps13
 go_wp2
 go_loopw [5] (fun i wr => ∃ j : Nat,j <= n /\ i = .int .i64 (j : Int) /\ Hid (Below w.heap.size w wr)) (fun i _ => n - (intOf i).toNat)
 case atStart => exact ⟨0,Nat.zero_le _,rfl,Lib.hid (Below.refl _ _)⟩
 case round =>
  obtain ⟨j,hj,rfl,HW⟩:=hrel
  by_cases hlt : j < n
  case pos =>
   obtain ⟨X,hX⟩ : ∃ X,xs[j]'(by rw [HN.out]; exact hlt) = X:=⟨_,rfl⟩
   obtain ⟨a1,rfl,h1⟩:=HA.out (by rw [HN.out]; omega)
   obtain ⟨b1,rfl,h2⟩:=HB.out (by rw [HN.out]; omega)
   have c1:=h1 j (by rw [HN.out]; exact hlt)
   have c2:=h2 j (by rw [HN.out]; exact hlt)
   rw [hX] at c1 c2
   have d1 : wr.cell? (a1.add j) = some (.int .i64 X):=(HW.out.cell (cell_lt c1)).trans c1
   have d2 : wr.cell? (b1.add j) = some (.int .i64 X):=(HW.out.cell (cell_lt c2)).trans c2
   have z : (X != X) = false:=by simp
   clear h1 h2 hX c1 c2
   go_wp2
   go_quiet (fail)
   go_wp2
   go_roundw
   case rel => exact ⟨j + 1,by omega,by go_num,Lib.hid (below_drewN HW.out _)⟩
   case measure => first | (simp [intOf]; done) | (simp [intOf]; omega)
  case neg =>
   obtain rfl : j = n:=by omega
   go_wp2
   go_ret
   exact ⟨rfl,HW.out⟩
def ctlR (r : Nat) : Bool:=decide (r < 32) && !decide (r = 9) && !decide (r = 10) && !decide (r = 13)
def ctlFrom (s : ByteArray) : Nat -> Nat -> Int
 | 0,_ => -1
 | f + 1,pos => if pos < s.size then (if ctlR (Utf8.decode s pos).1 = true then (pos : Int) else ctlFrom s f (pos + (Utf8.decode s pos).2)) else -1
theorem ctlFrom_end (s : ByteArray) (f pos : Nat) (h : ¬ pos < s.size) : ctlFrom s f pos = -1:=by cases f <;> simp [ctlFrom,h]
theorem rawB_ctl (b : UInt8) : rawB b = !ctlR b.toNat:=by
 unfold rawB ctlR
 have h1 : decide (b < 32) = decide (b.toNat < 32):=by rw [decide_eq_decide]; exact UInt8.lt_iff_toNat_lt
 have h2 : ∀ c : UInt8,decide (b = c) = decide (b.toNat = c.toNat):=fun c => by rw [decide_eq_decide]; exact ⟨fun h => by rw [h],fun h => UInt8.toNat_inj.1 h⟩
 rw [h1,h2,h2,h2]
 rfl
theorem raw_high {b : UInt8} (h : 32 <= b.toNat) : rawB b = true:=by
 rw [rawB_ctl]
 unfold ctlR
 simp [show ¬ b.toNat < 32 by omega]
theorem rawL_drop (l : List UInt8) (pos : Nat) (h : pos < l.length) : rawL (l.drop pos) = (rawB (l.getD pos 0) && rawL (l.drop (pos + 1))):=by
 rw [List.drop_eq_getElem_cons h]
 unfold rawL
 rw [List.all_cons]
 simp [h]
theorem high_rune (n b0 b1 b2 b3 : Nat) (h : 128 <= b0) : 128 <= (Lib.decodeN n b0 b1 b2 b3).1:=by
 rcases Lib.decodeN_cases n b0 b1 b2 b3 with ⟨c,_⟩ | ⟨_,_,_,c,e⟩ | ⟨_,_,_,_,c,e⟩ | ⟨c,_⟩ | e
 ·omega
 ·rw [e]; exact c
 ·rw [e]; simp only; omega
 ·omega
 ·rw [e]; decide
theorem ctl_raw (s : ByteArray) : ∀ (f pos : Nat),s.size <= pos + f -> (ctlFrom s f pos = -1 ↔ rawL (s.data.toList.drop pos) = true) /\ (ctlFrom s f pos = -1 \/ 0 <= ctlFrom s f pos)
 | 0,pos,h => by
  have h2 : s.data.toList.drop pos = []:=List.drop_eq_nil_of_le (by rw [<- Lib.size_eq]; omega)
  rw [h2]
  simp [ctlFrom,rawL]
 | f + 1,pos,h => by
  have hsz : s.size = s.data.toList.length:=Lib.size_eq s
  by_cases hp : pos < s.size
  ·unfold ctlFrom
   rw [if_pos hp]
   have hd:=Lib.decode_N s pos
   have hl : pos < s.data.toList.length:=by omega
   have ih:=ctl_raw s f (pos + (Utf8.decode s pos).2) (by have:=Lib.width_pos s pos; omega)
   by_cases hb : (s.data.toList.getD pos 0).toNat < 128
   ·rw [Lib.decodeN_ascii _ _ _ _ _ hb] at hd
    rw [hd] at ih ⊢
    simp only at ih ⊢
    rw [rawL_drop _ _ hl,rawB_ctl]
    cases hc : ctlR (s.data.toList.getD pos 0).toNat with
    | true =>
     simp only [if_true,Bool.not_true,Bool.false_and,Bool.false_eq_true,iff_false]
     exact ⟨by omega,.inr (by omega)⟩
    | false =>
     simp only [Bool.false_eq_true,if_false,Bool.not_false,Bool.true_and]
     exact ih
   ·have hr:=high_rune (s.data.toList.length - pos) _ (s.data.toList.getD (pos + 1) 0).toNat (s.data.toList.getD (pos + 2) 0).toNat (s.data.toList.getD (pos + 3) 0).toNat (Nat.le_of_not_lt hb)
    have hc:=Lib.decodeN_conts (s.data.toList.length - pos) (s.data.toList.getD pos 0).toNat (s.data.toList.getD (pos + 1) 0).toNat (s.data.toList.getD (pos + 2) 0).toNat (s.data.toList.getD (pos + 3) 0).toNat
    rw [<- hd] at hr hc
    have hw:=Lib.width_pos s pos
    have hno : ctlR (Utf8.decode s pos).1 = false:=by unfold ctlR; simp [show ¬ (Utf8.decode s pos).1 < 32 by omega]
    rw [hno]
    simp only [Bool.false_eq_true,if_false]
    obtain ⟨c1,c2,c3,c4⟩:=hc
    have e0:=raw_high (b:=s.data.toList.getD pos 0) (by omega)
    have hR : rawL (s.data.toList.drop pos) = rawL (s.data.toList.drop (pos + (Utf8.decode s pos).2)):=by
     generalize hK : (Utf8.decode s pos).2 = K at *
     rw [rawL_drop _ _ hl,e0,Bool.true_and]
     by_cases k1 : K = 1
     ·rw [k1]
     have d1:=c1 (by omega)
     rw [rawL_drop _ _ (by omega),raw_high (b:=s.data.toList.getD (pos + 1) 0) (by omega),Bool.true_and]
     by_cases k2 : K = 2
     ·rw [k2]
     have d2:=c2 (by omega)
     rw [rawL_drop _ _ (by omega),raw_high (b:=s.data.toList.getD (pos + 1 + 1) 0) (by rw [show pos + 1 + 1 = pos + 2 by omega]; omega),Bool.true_and]
     by_cases k3 : K = 3
     ·rw [k3]
     have d3:=c3 (by omega)
     rw [rawL_drop _ _ (by omega),raw_high (b:=s.data.toList.getD (pos + 1 + 1 + 1) 0) (by rw [show pos + 1 + 1 + 1 = pos + 3 by omega]; omega),Bool.true_and]
     rw [show K = 4 by omega]
    rw [hR]
    exact ih
  ·have h2 : s.data.toList.drop pos = []:=List.drop_eq_nil_of_le (by omega)
   rw [ctlFrom_end s _ _ hp,h2]
   simp [rawL]
theorem ctl_ge (s : ByteArray) : decide (0 <= ctlFrom s s.size 0) = !rawL s.data.toList:=by
 obtain ⟨h1,h2⟩:=ctl_raw s s.size 0 (by omega)
 rw [List.drop_zero] at h1
 cases hr : rawL s.data.toList with
 | true => rw [h1.2 hr]; decide
 | false =>
  have : ctlFrom s s.size 0 ≠ -1:=fun h => by rw [h1.1 h] at hr; cases hr
  have : 0 <= ctlFrom s s.size 0:=by rcases h2 with h | h <;> omega
  simp [this]
theorem isctl_any (r : Nat) (hr : r <= 1114111) (w : World) :
 Calls Tryz.prog 153 #[.int .i32 (r : Int)] w fun e w' => e = .returned (.bool (ctlR r)) /\ w' = w:=by
 by_cases h1 : r < 32
 ·have e : ctlR r = (!decide (r = 9) && !decide (r = 10) && !decide (r = 13)):=by unfold ctlR; simp [h1]
  rw [e]
  clear e
  have z1 : (r : Int) < 32:=by omega
  by_cases h2 : r = 9
  ·subst h2
   go_enter Tryz.func153,Tryz.ntmps153
   go_wp2
   go_ret
   exact ⟨rfl,rfl⟩
  ·by_cases h3 : r = 10
   ·subst h3
    go_enter Tryz.func153,Tryz.ntmps153
    go_wp2
    go_ret
    exact ⟨rfl,rfl⟩
   ·by_cases h4 : r = 13
    ·subst h4
     go_enter Tryz.func153,Tryz.ntmps153
     go_wp2
     go_ret
     exact ⟨rfl,rfl⟩
    ·have z2 : ¬ (r : Int) = 9:=by omega
     have y2 : ((r : Int) == 9) = false:=ibeq z2
     have z3 : ¬ (r : Int) = 10:=by omega
     have y3 : ((r : Int) == 10) = false:=ibeq z3
     have z4 : ¬ (r : Int) = 13:=by omega
     have y4 : ((r : Int) == 13) = false:=ibeq z4
     simp only [h2,h3,h4,decide_false,Bool.not_false,Bool.and_true]
     clear h1 h2 h3 h4
     go_enter Tryz.func153,Tryz.ntmps153
     go_wp2
     go_ret
     exact ⟨congrArg (fun b => Ending.returned (.bool b)) (show ((r : Int) != 9 && (r : Int) != 10 && (r : Int) != 13) = true by simp [z2,z3,z4]),rfl⟩
 ·have e : ctlR r = false:=by unfold ctlR; simp [h1]
  rw [e]
  clear e
  have z1 : ¬ (r : Int) < 32:=by omega
  clear h1
  go_enter Tryz.func153,Tryz.ntmps153
  go_wp2
  go_ret
  exact ⟨rfl,rfl⟩
set_option maxHeartbeats 2000000 in
theorem idxctl_any (s : ByteArray) (w : World) :
 Calls Tryz.prog 178 #[.string s,.func (.func 153) #[] #[],.bool true] w fun e w' => e = .returned (.int .i64 (ctlFrom s s.size 0)) /\ Below w.heap.size w w':=by
 go_enter Tryz.func178,Tryz.ntmps178
 go_wp2
 go_loopg [] s.size (fun gf wx => ∃ pos : Nat,wx.heap[w.heap.size]? = some (.stringIter s pos) /\ Below w.heap.size w wx /\ ctlFrom s gf pos = ctlFrom s s.size 0 /\ s.size <= pos + gf)
 case atStart => exact ⟨0,World.iter_heap w s 0,(Below.refl _ w).alloc (Nat.le_refl _) _,rfl,by omega⟩
 case round =>
  obtain ⟨pos,hit,hbw,hleft,hfu⟩:=hrel
  by_cases hps : pos < s.size
  ·obtain ⟨g',rfl⟩ : ∃ g',gk = g' + 1:=⟨gk - 1,by omega⟩
   have hnx : ∀ ty,(Instr.next (.pointer (some ⟨w.heap.size,0,none⟩)) true ty).run Tryz.prog wr = _:=fun ty => Lib.run_next_any_at wr w.heap.size s pos ty hit hps
   have hwd:=Lib.width_pos s pos
   have hrl:=Lib.rune_le s pos
   obtain ⟨R,hR⟩ : ∃ R,(Utf8.decode s pos).1 = R:=⟨_,rfl⟩
   obtain ⟨K,hK⟩ : ∃ K,(Utf8.decode s pos).2 = K:=⟨_,rfl⟩
   simp only [ctlFrom,hps,if_true,hR,hK] at hleft
   rw [hR,hK] at hnx
   rw [hK] at hwd
   rw [hR] at hrl
   have hit2:=Lib.iterAt_heap wr w.heap.size s pos (pos + K) hit
   have hbw2:=Lib.below_iterAt hbw (k:=w.heap.size) (Nat.le_refl _) s (pos + K)
   obtain ⟨W,hWd⟩ : ∃ W,wr.iterAt w.heap.size s (pos + K) = W:=⟨_,rfl⟩
   rw [hWd] at hnx hit2 hbw2
   have cS:=isctl_any R hrl W
   clear hrl
   cases hsp : ctlR R <;> rw [hsp] at cS <;> simp only [hsp,if_true,Bool.false_eq_true,if_false] at hleft
   ·go_wp2_with (go_at_call 153; refine cS.mono ?_; rintro e W' ⟨rfl,rfl⟩)
    go_roundg g'
    case measure => omega
    case rel => exact ⟨pos + K,hit2,hbw2,hleft,by omega⟩
   ·go_wp2_with (go_at_call 153; refine cS.mono ?_; rintro e W' ⟨rfl,rfl⟩)
    go_ret
    exact ⟨by rw [<- hleft] <;> rfl,hbw2⟩
  ·have hnx : ∀ ty,(Instr.next (.pointer (some ⟨w.heap.size,0,none⟩)) true ty).run Tryz.prog wr = _:=fun ty => Lib.run_next_end_at wr w.heap.size s pos ty hit hps
   rw [ctlFrom_end s gk pos hps] at hleft
   go_wp2
   go_ret
   exact ⟨by rw [<- hleft] <;> rfl,hbw⟩
theorem israw_any (s : ByteArray) (w : World) :
 Calls Tryz.prog 119 #[.string s] w fun e w' => e = .returned (.bool (rawL s.data.toList)) /\ Below w.heap.size w w':=by
 have HG:=Lib.hid (ctl_ge s)
 have h1:=idxctl_any s
 generalize ctlFrom s s.size 0 = R at *
 have h2 : ∀ w,Calls Tryz.prog 169 #[.string s,.func (.func 153) #[] #[]] w fun e w' => e = .returned (.int .i64 R) /\ Below w.heap.size w w':=by
  intro w
  go_enter Tryz.func169,Tryz.ntmps169
  go_wp2_with (go_at_call 178; refine (h1 _).mono ?_; rintro e w1 ⟨rfl,hb⟩)
  go_ret
  exact ⟨rfl,hb⟩
 have h3 : ∀ w,Calls Tryz.prog 152 #[.string s,.func (.func 153) #[] #[]] w fun e w' => e = .returned (.bool (!rawL s.data.toList)) /\ Below w.heap.size w w':=by
  intro w
  rw [<- HG.out]
  clear HG
  go_enter Tryz.func152,Tryz.ntmps152
  go_wp2_with (go_at_call 169; refine (h2 _).mono ?_; rintro e w1 ⟨rfl,hb⟩)
  go_ret
  exact ⟨rfl,hb⟩
 clear h1 h2 HG
 generalize rawL s.data.toList = b at *
 cases b <;>
 ·simp only [Bool.not_true,Bool.not_false] at h3
  go_enter Tryz.func119,Tryz.ntmps119
  go_wp2_with (go_at_call 152; refine (h3 _).mono ?_; rintro e w1 ⟨rfl,hb⟩)
  go_ret
  exact ⟨rfl,hb⟩
def strV (l : List UInt8) : Value:=.string ⟨l.toArray⟩
theorem str_neq {x y : List UInt8} (h : ¬ x = y) : ((⟨x.toArray⟩ : ByteArray).toList == (⟨y.toArray⟩ : ByteArray).toList) = false /\ ¬ (⟨x.toArray⟩ : ByteArray).toList = (⟨y.toArray⟩ : ByteArray).toList:=str_diff (fun e => h (by have:=congrArg (fun z : ByteArray => z.data.toList) e; simpa using this))
def SRead (w : World) (cv : Value) (l : List (List UInt8)) : Prop:=∃ A c,cv = .slice A l.length c /\ (0 < l.length -> ∃ ad : Addr,A = some ad /\ ∀ j (h : j < l.length),w.cell? (ad.add j) = some (.string ⟨l[j].toArray⟩))
theorem ORow.sread {w : World} {base : Nat} {cv : Value} {l : List (List UInt8)} (h : ORow w base 9 cv (l.map strV)) : SRead w cv l:=by
 rcases h.form with ⟨rfl,h0⟩ | ⟨g,cap,rfl,_⟩
 ·have : l = []:=by simpa using h0
  subst this
  exact ⟨none,0,rfl,fun h => absurd h (by simp)⟩
 ·refine ⟨some ⟨g,0,none⟩,cap,by rw [List.length_map],fun _ => ⟨_,rfl,fun j hj => ?_⟩⟩
  obtain ⟨ad,e,_,_,hc⟩:=h.cell (k:=j) (by simpa using hj)
  injection e with e
  injection e with e
  subst e
  rw [addr_add0,hc]
  simp [strV]
set_option maxHeartbeats 4000000 in
theorem sindex_any (w : World) (cv : Value) (l : List (List UInt8)) (t : List UInt8) (hv : SRead w cv l) (hl : l.length <= 1000000) :
 Calls Tryz.prog 168 #[cv,.string ⟨t.toArray⟩] w fun e w' => (∃ i : Int,e = .returned (.int .i64 i) /\ (t ∈ l -> 0 <= i) /\ (t ∉ l -> i = -1)) /\ ∃ n,w' = w.drewN n:=by
 obtain ⟨A,c,rfl,hr⟩:=hv
 go_enter Tryz.func168,Tryz.ntmps168
 go_wp2
 go_loopw [8] (fun i wr => ∃ k : Nat,k <= l.length /\ i = .int .i64 k /\ Hid (t ∉ l.take k) /\ ∃ n,wr = w.drewN n) (fun i _ => l.length - (intOf i).toNat)
 case atStart => exact ⟨0,Nat.zero_le _,rfl,Lib.hid (by simp),0,rfl⟩
 case round =>
  obtain ⟨k,hk,rfl,HT,n,rfl⟩:=hrel
  by_cases hlt : k < l.length
  ·obtain ⟨ad,rfl,hc⟩:=hr (by omega)
   have hck : (w.drewN n).cell? (ad.add k) = some (.string ⟨l[k].toArray⟩):=hc k hlt
   by_cases he : t = l[k]
   ·have hm : t ∈ l:=by rw [he]; exact List.getElem_mem hlt
    have HM:=Lib.hid hm
    rw [<- he] at hck
    clear he hc hr hm
    go_wp2
    go_ret
    exact ⟨⟨k,rfl,fun _ => by omega,fun h => absurd HM.out h⟩,n,rfl⟩
   ·have n1 : (t == l[k]) = false:=by rw [beq_eq_false_iff_ne]; exact he
    have HT2 : Hid (t ∉ l.take (k + 1)):=Lib.hid (by
     rw [List.take_succ_eq_append_getElem hlt,List.mem_append]
     rintro (h | h)
     ·exact HT.out h
     ·simp at h; exact he h)
    generalize l[k] = y at *
    clear he hc hr
    go_wp2
    go_roundw
    case rel => exact ⟨k + 1,hlt,by go_num,HT2,n,rfl⟩
    case measure => first | (simp [intOf]; done) | (simp [intOf]; omega)
  ·have hke : k = l.length:=by omega
   have h2:=HT.out
   rw [List.take_of_length_le (by omega)] at h2
   have HN:=Lib.hid h2
   subst hke
   clear h2 HT hr
   go_wp2
   go_ret
   exact ⟨⟨-1,rfl,fun h => absurd h HN.out,fun _ => rfl⟩,n,rfl⟩
theorem scontains_any (w : World) (cv : Value) (l : List (List UInt8)) (t : List UInt8) (hv : SRead w cv l) (hl : l.length <= 1000000) :
 Calls Tryz.prog 151 #[cv,.string ⟨t.toArray⟩] w fun e w' => e = .returned (.bool (decide (t ∈ l))) /\ ∃ n,w' = w.drewN n:=by
 have hC:=Lib.hid (sindex_any w cv l t hv hl)
 obtain ⟨q,hq⟩ : ∃ q,decide (t ∈ l) = q:=⟨_,rfl⟩
 rw [hq]
 clear hv
 go_enter Tryz.func151,Tryz.ntmps151
 go_wp2_with fail
 refine hC.out.mono ?_
 rintro e w' ⟨⟨i,rfl,h1,h2⟩,n,rfl⟩
 by_cases hm : t ∈ l
 ·have h0:=h1 hm
  have z : decide (0 <= i) = true:=by simpa using h0
  have hd : decide (t ∈ l) = true:=by simpa using hm
  rw [hd] at hq
  subst hq
  clear h1 h2 hm hC hd
  go_wp2
  go_ret
  exact ⟨rfl,n,rfl⟩
 ·have h0:=h2 hm
  have hd : decide (t ∈ l) = false:=by simpa using hm
  rw [hd] at hq
  subst hq
  clear hd
  subst h0
  clear h1 h2 hm hC
  go_wp2
  go_ret
  exact ⟨rfl,n,rfl⟩
end Go.Proofs.YtbnppjmmlfncmaaGreatDoor
