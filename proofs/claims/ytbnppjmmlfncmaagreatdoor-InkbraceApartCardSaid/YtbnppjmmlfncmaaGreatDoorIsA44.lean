/-
  The walk of InkbraceApart.
  What every row of this seat's laws shares: the variables that are listed, a world that holds them, what the walks lean on out of them; (stage 15).
  A node that came in, opened: the sizes out of the bulk (for a form with a bound).
-/
import Derived.Test.YtbnppjmmlfncmaaGreatDoorIsA38
import Derived.Test.YtbnppjmmlfncmaaGreatDoorIsA43
import Derived.Test.YtbnppjmmlfncmaaGreatDoorRows
import Derived.Test.YtbnppjmmlfncmaaGreatDoorCards
import Derived.Test.YtbnppjmmlfncmaaGreatDoorTie
import Derived.Test.YtbnppjmmlfncmaaGreatDoorIsA18
import Derived.Test.YtbnppjmmlfncmaaGreatDoorIsA24
import Derived.Deep.Slices
import Derived.Deep.Fields
import Derived.ChangeSame
import Derived.SizedLaws
import Derived.ProofKit
import Derived.OpenShut
import Derived.ShutString
import Derived.Deep.DeepHandedRow
import Derived.Lib.LaidTab
import Derived.Lay
import Derived.Stop.LaidErr
import Derived.SevenTiedAt
set_option maxRecDepth 100000
set_option linter.unusedSimpArgs false
set_option linter.unusedVariables false
namespace Go.Proofs.YtbnppjmmlfncmaaGreatDoor
open Go.RowKit Go.Maps
theorem pr_brc {n : Nd} (h : prE n = 0) : mayN n = 0 /\ srN badS nextS n .brc = none:=by
 obtain ⟨h1,h2⟩:=pr_none h
 exact ⟨h1,by rw [ofP_brc] at h2; exact h2⟩
theorem prS_inj {n m : Nd} (hn : prE n = 0) (hm : prE m = 0) : (prS n = prS m) ↔ n = m:=by
 constructor
 ·intro h
  unfold prS at h
  rw [if_pos hn,if_pos hm] at h
  obtain ⟨h1,h2⟩:=pr_brc hn
  obtain ⟨h3,h4⟩:=pr_brc hm
  exact Br.ink_inj h1 h2 h3 h4 h
 ·rintro rfl; rfl
theorem ba_inj {a b : List UInt8} : (⟨a.toArray⟩ : ByteArray) = ⟨b.toArray⟩ ↔ a = b:=by
 constructor
 ·intro h
  have:=congrArg (fun s : ByteArray => s.data.toList) h
  simpa using this
 ·rintro rfl; rfl
theorem str_apart {x y : ByteArray} (h : x ≠ y) : (x.toList == y.toList) = false /\ ¬ x.toList = y.toList:=by
 have h2 : ¬ x.data.toList = y.data.toList:=fun e => h (by
  obtain ⟨a⟩:=x
  obtain ⟨b⟩:=y
  simp only at e
  rw [Array.toList_inj.1 e])
 rw [Lib.toList_data,Lib.toList_data]
 exact ⟨by simpa using h2,h2⟩
set_option maxHeartbeats 16000000 in
theorem walk_InkbraceApart (n : Nd) (A : Option Addr) (c : Nat) (ho : okW 140737488355328 n) (m : Nd) (A' : Option Addr) (c' : Nat) (ho' : okW 140737488355328 m) (w : World) (hw : Nm.StdW w) (hA : NAt (fun b _ => b < w.heap.size) w n A c) (hA' : NAt (fun b _ => b < w.heap.size) w m A' c') :
 Calls Tryz.prog 7 #[.agg #[.int .i64 n.k,.string n.t,.string n.v,.slice A n.kids.length c],.agg #[.int .i64 m.k,.string m.t,.string m.v,.slice A' m.kids.length c']] w fun e w' => e = .returned (.bool true) /\ Below w.heap.size w w':=by
 have bX:=Blk.new w 24 #[.int .i64 n.k,.string n.t,.string n.v,.slice A n.kids.length c]
 have al1:=(Below.refl w.heap.size w).alloc (Nat.le_refl _) (.cells #[.int .i64 n.k,.string n.t,.string n.v,.slice A n.kids.length c] 24)
 have bX1:=bX.alloc (.cells #[.int .i64 m.k,.string m.t,.string m.v,.slice A' m.kids.length c'] 24)
 have bY1:=Blk.new (w.alloc (.cells #[.int .i64 n.k,.string n.t,.string n.v,.slice A n.kids.length c] 24)) 24 #[.int .i64 m.k,.string m.t,.string m.v,.slice A' m.kids.length c']
 have al2:=al1.alloc (by simp) (.cells #[.int .i64 m.k,.string m.t,.string m.v,.slice A' m.kids.length c'] 24)
 rw [World.size_alloc] at bY1
 obtain ⟨W0,hW0⟩ : ∃ W0,(w.alloc (.cells #[.int .i64 n.k,.string n.t,.string n.v,.slice A n.kids.length c] 24)).alloc (.cells #[.int .i64 m.k,.string m.t,.string m.v,.slice A' m.kids.length c'] 24) = W0:=⟨_,rfl⟩
 rw [hW0] at bX1 bY1 al2
 have HX:=Lib.hid bX1
 have HY:=Lib.hid bY1
 have HB:=Lib.hid al2
 have HA:=Lib.hid (hA.upp al2)
 have HA':=Lib.hid (hA'.upp al2)
 have hL:=fun w' h => ilives_any w' h
 obtain ⟨x0,x1,x2,x3⟩:=nbox bX1
 have HF:=Lib.hid (ifew_any n _ A c W0 HA.out)
 have HK:=Lib.hid (ifew_ok ho (by omega))
 have HK':=Lib.hid (ifew_ok ho' (by omega))
 have HF' : Hid (∀ w1,NAt (fun b _ => b < w1.heap.size) w1 m A' c' -> Calls Tryz.prog 14 #[.agg #[.int .i64 m.k,.string m.t,.string m.v,.slice A' m.kids.length c']] w1 fun e w' => e = .returned (.bool (decide (0 <= fewN m 200 20))) /\ Below w1.heap.size w1 w'):=Lib.hid fun w1 h => ifew_any m _ A' c' w1 h
 clear bX al1 bX1 bY1 al2 hA hA' ho ho'
 go_enter Tryz.func7,Tryz.ntmps7
 go_wp2_with fail
 clear hW0
 refine HF.out.mono ?_
 rintro e w1 ⟨rfl,hb1⟩
 generalize decide (0 <= fewN n 200 20) = f1 at *
 have HX1:=Lib.hid (HX.out.below hb1 HX.out.lt)
 have HY1:=Lib.hid (HY.out.below hb1 HY.out.lt)
 have HB1:=Lib.hid (HB.out.trans (hb1.mono HB.out.size))
 have HA1:=Lib.hid (HA.out.upp hb1)
 have HA1':=Lib.hid (HA'.out.upp hb1)
 obtain ⟨y0,y1,y2,y3⟩:=nbox HY1.out
 have hF2:=HF'.out w1 HA1'.out
 clear hb1 HX HY HB HA HA' HF HF' x0 x1 x2 x3
 go_wp2_with fail
 refine hF2.mono ?_
 rintro e w2 ⟨rfl,hb2⟩
 generalize decide (0 <= fewN m 200 20) = f2 at *
 have HX2:=Lib.hid (HX1.out.below hb2 HX1.out.lt)
 have HY2:=Lib.hid (HY1.out.below hb2 HY1.out.lt)
 have HB2:=Lib.hid (HB1.out.trans (hb2.mono HB1.out.size))
 have HA2:=Lib.hid (HA1.out.upp hb2)
 have HA2':=Lib.hid (HA1'.out.upp hb2)
 have hs2:=HB2.out.size
 clear hb2 HX1 HY1 HB1 HA1 HA1' y0 y1 y2 y3 hF2
 have hL2:=hL _ (hw.below HB2.out)
 cases f1 with
 | false =>
  clear HK HK'
  go_wp2_with fail
  refine hL2.mono ?_
  rintro e w3 ⟨rfl,hb3⟩
  have HB3:=Lib.hid (HB2.out.trans (hb3.mono hs2))
  clear hb3
  go_wp2
  go_ret
  exact ⟨rfl,HB3.out⟩
 | true =>
 cases f2 with
 | false =>
  clear HK HK'
  go_wp2_with fail
  refine hL2.mono ?_
  rintro e w3 ⟨rfl,hb3⟩
  have HB3:=Lib.hid (HB2.out.trans (hb3.mono hs2))
  clear hb3
  go_wp2
  go_ret
  exact ⟨rfl,HB3.out⟩
 | true =>
  obtain ⟨hok,hsz⟩:=HK.out rfl
  obtain ⟨hok',hsz'⟩:=HK'.out rfl
  have hP:=inkprint_any n A c w2 (hw.below HB2.out) HA2.out hok (by omega) may_small
  have HP' : Hid (∀ w,Nm.StdW w -> NAt (fun b _ => b < w.heap.size) w m A' c' -> Calls Tryz.prog 16 #[.agg #[.int .i64 m.k,.string m.t,.string m.v,.slice A' m.kids.length c']] w (PrPost m w)):=Lib.hid fun w h1 h2 => inkprint_any m A' c' w h1 h2 hok' (by omega) may_small
  have HSM : Hid (∀ w,NAt (fun b _ => b < w.heap.size) w n A c -> NAt (fun b _ => b < w.heap.size) w m A' c' -> Calls Tryz.prog 21 #[.agg #[.int .i64 n.k,.string n.t,.string n.v,.slice A n.kids.length c],.agg #[.int .i64 m.k,.string m.t,.string m.v,.slice A' m.kids.length c']] w fun e w' => e = .returned (.bool (sameN n m)) /\ Below w.heap.size w w'):=Lib.hid fun w h1 h2 => rsame_any n m _ _ A A' c c' w h1 h2
  have HIN : Hid (prE n = 0 -> prE m = 0 -> ((⟨(prS n).toArray⟩ : ByteArray) = ⟨(prS m).toArray⟩ ↔ sameN n m = true)):=Lib.hid fun h1 h2 => by rw [ba_inj,prS_inj h1 h2,sameN_iff]
  unfold PrPost at hP HP'
  generalize prE n = E at *
  generalize prE m = E' at *
  generalize (⟨(prS n).toArray⟩ : ByteArray) = SS at *
  generalize (⟨(prS m).toArray⟩ : ByteArray) = SS' at *
  generalize prP n = PP at *
  generalize prP m = PP' at *
  generalize sameN n m = sm at *
  obtain ⟨x0,x1,x2,x3⟩:=nbox HX2.out
  clear HK HK' hok hok' hsz hsz' hL2
  go_wp2_with fail
  refine hP.mono ?_
  rintro e w3 ⟨va,rfl,_,hb3⟩
  have HX3:=Lib.hid (HX2.out.below hb3 HX2.out.lt)
  have HY3:=Lib.hid (HY2.out.below hb3 HY2.out.lt)
  have HB3:=Lib.hid (HB2.out.trans (hb3.mono hs2))
  have HA3:=Lib.hid (HA2.out.upp hb3)
  have HA3':=Lib.hid (HA2'.out.upp hb3)
  have hC:=HP'.out w3 (hw.below HB3.out) HA3'.out
  obtain ⟨y0,y1,y2,y3⟩:=nbox HY3.out
  clear hb3 HX2 HY2 HB2 HA2 HA2' hs2 x0 x1 x2 x3 hP HP'
  go_wp2_with fail
  refine hC.mono ?_
  rintro e w4 ⟨vb,rfl,_,hb4⟩
  have HX4:=Lib.hid (HX3.out.below hb4 HX3.out.lt)
  have HY4:=Lib.hid (HY3.out.below hb4 HY3.out.lt)
  have HB4:=Lib.hid (HB3.out.trans (hb4.mono HB3.out.size))
  have HA4:=Lib.hid (HA3.out.upp hb4)
  have HA4':=Lib.hid (HA3'.out.upp hb4)
  have hs4:=HB4.out.size
  clear hb4 HX3 HY3 HB3 HA3 HA3' y0 y1 y2 y3 hC
  have hL4:=hL _ (hw.below HB4.out)
  by_cases h0 : E = 0
  case neg =>
   have z1:=ibne h0
   have z2:=ibeq h0
   clear h0 HIN HSM
   go_wp2_with fail
   refine hL4.mono ?_
   rintro e w5 ⟨rfl,hb5⟩
   have HB5:=Lib.hid (HB4.out.trans (hb5.mono hs4))
   clear hb5
   go_wp2
   go_ret
   exact ⟨rfl,HB5.out⟩
  case pos =>
  subst h0
  by_cases h0' : E' = 0
  case neg =>
   have z1:=ibne h0'
   have z2:=ibeq h0'
   clear h0' HIN HSM
   go_wp2_with fail
   refine hL4.mono ?_
   rintro e w5 ⟨rfl,hb5⟩
   have HB5:=Lib.hid (HB4.out.trans (hb5.mono hs4))
   clear hb5
   go_wp2
   go_ret
   exact ⟨rfl,HB5.out⟩
  case pos =>
   subst h0'
   have hin:=HIN.out rfl rfl
   have hS:=HSM.out w4 HA4.out HA4'.out
   obtain ⟨x0,x1,x2,x3⟩:=nbox HX4.out
   obtain ⟨y0,y1,y2,y3⟩:=nbox HY4.out
   clear HIN HSM HX4 HY4 HA4 HA4' hL4
   cases sm with
   | true =>
    obtain rfl : SS = SS':=hin.2 rfl
    clear hin
    go_wp2_with fail
    refine hS.mono ?_
    rintro e w5 ⟨rfl,hb5⟩
    have HB5:=Lib.hid (HB4.out.trans (hb5.mono hs4))
    have hL5:=hL w5 (hw.below HB5.out)
    clear hb5 hS x0 x1 x2 x3 y0 y1 y2 y3 hL
    go_wp2_with fail
    refine hL5.mono ?_
    rintro e w6 ⟨rfl,hb6⟩
    have HB6:=Lib.hid (HB5.out.trans (hb6.mono HB5.out.size))
    clear hb6 hL5
    go_wp2
    go_ret
    exact ⟨rfl,HB6.out⟩
   | false =>
    have hne : SS ≠ SS':=fun e => by have:=hin.1 e; cases this
    have z2 : decide (SS = SS') = false:=by simpa using hne
    obtain ⟨z3,z4⟩:=str_apart hne
    clear hin hne
    go_wp2_with fail
    refine hS.mono ?_
    rintro e w5 ⟨rfl,hb5⟩
    have HB5:=Lib.hid (HB4.out.trans (hb5.mono hs4))
    have hL5:=hL w5 (hw.below HB5.out)
    clear hb5 hS x0 x1 x2 x3 y0 y1 y2 y3 hL
    go_wp2_with fail
    refine hL5.mono ?_
    rintro e w6 ⟨rfl,hb6⟩
    have HB6:=Lib.hid (HB5.out.trans (hb6.mono HB5.out.size))
    clear hb6 hL5
    go_wp2
    go_ret
    exact ⟨rfl,HB6.out⟩
open Go.RowKit Go.ChangeShapes Go.WideShapes Go.Deep
theorem own : ownKnob Tryz.prog.godebug = none:=by kernel_rfl
theorem laidOut : laidOutB Tryz.prog = true:=by kernel_rfl
def laidL : List (String × DataW Unit) := [("math/bits.deBruijn32tab", Rows.laid_math_bits_deBruijn32tab), ("math/bits.deBruijn64tab", Rows.laid_math_bits_deBruijn64tab), ("internal/strconv.uint64pow10", Rows.laid_internal_strconv_uint64pow10), ("unicode/utf8.acceptRanges", Rows.laid_unicode_utf8_acceptRanges), ("strconv.ErrRange", Rows.laid_strconv_ErrRange), ("strconv.ErrSyntax", Rows.laid_strconv_ErrSyntax), ("unicode/utf8.first", Rows.laid_unicode_utf8_first)]
theorem laidL_eq : laidL = [("math/bits.deBruijn32tab", Rows.laid_math_bits_deBruijn32tab), ("math/bits.deBruijn64tab", Rows.laid_math_bits_deBruijn64tab), ("internal/strconv.uint64pow10", Rows.laid_internal_strconv_uint64pow10), ("unicode/utf8.acceptRanges", Rows.laid_unicode_utf8_acceptRanges), ("strconv.ErrRange", Rows.laid_strconv_ErrRange), ("strconv.ErrSyntax", Rows.laid_strconv_ErrSyntax), ("unicode/utf8.first", Rows.laid_unicode_utf8_first)] := rfl
theorem laid_met (os : Os) (args : Array Value) : laidMetH Tryz.prog laidL ((World.laidAll Tryz.prog os laidL).forCall (fun _ _ => 0) ⟨#[],args,[]⟩).memory:=by
 rw [MakeChecks.laidMetH_plain _ _ _ (by kernel_rfl)]
 exact laidMet_laidAll _ (by kernel_rfl) (by kernel_rfl)
theorem shapedW (os : Os) (args : Array Value) : ((World.laidAll Tryz.prog os laidL).forCall (fun _ _ => 0) ⟨#[],args,[]⟩).Shaped Tryz.prog :=
 World.shaped_of_ZipB (by kernel_rfl) (by kernel_rfl)
theorem pow_data : (Rows.laid_internal_strconv_uint64pow10 : DataW Unit) = Lib.tabData .u64 Lib.pow10Tab:=by kernel_rfl
theorem tPow : (Tryz.prog.globals[5]?).map (·.type) = some 233:=by kernel_rfl
theorem tRange : (Tryz.prog.globals[2]?).map (·.type) = some 95:=by kernel_rfl
theorem star : "*" ++ "errors.errorString" = "*errors.errorString" := by decide
theorem row_err (u : TypeId) (h : Tryz.prog.typeName? 3 u = some "*errors.errorString") : u = 237 :=
 typeName_ptr_named (nm := "errors.errorString") (by rw [star]; kernel_rfl) (by kernel_rfl) (by decide) u (by rw [star]; exact h)
theorem std_of {W : World} (hL : laidMetH Tryz.prog laidL W) (hsh : W.ShapedOpen Tryz.prog) : Nm.StdW W:=by
 rw [MakeChecks.laidMetH_plain _ _ _ (by kernel_rfl),laidL_eq] at hL
 refine ⟨Tryz.laysM145.s1_3 W hsh,?_,?_⟩
 ·have h5:=hL.tail.tail.tail.tail
  unfold Rows.laid_strconv_ErrRange at h5
  obtain ⟨a,s,h,_⟩:=laid_sentinel h5 Nm.gRange tRange Tryz.underlying95 row_err Tryz.underlying237 Tryz.underlying239 rfl rfl Tryz.underlying9 (by kernel_rfl) (by kernel_rfl)
  exact ⟨_,_,h⟩
 ·have h3:=hL.tail.tail
  rw [pow_data] at h3
  exact Lib.tabIs_of_head Nm.gPow tPow Tryz.underlying233 Tryz.underlying210 (by kernel_rfl) (by kernel_rfl) h3
theorem sized_node {H : Type} {ts : List TypeId} {ds : List (DataW H)} (h : (DataW.weightsEach Tryz.prog ts ds).all (· <= reachBytes) = true) {j : Nat} {d : DataW H} (ht : ts[j]? = some 24) (hd : ds[j]? = some d) : ∀ k ∈ d.weights Tryz.prog 24,k <= 140737488355328:=by
 intro k hk
 have:=of_decide_eq_true (List.all_eq_true.1 h _ (DataW.weights_mem_each ht hd _ hk))
 simp [reachBytes] at this
 omega
theorem bulk_part {H : Type} {d : DataW H} {l : List (DataW H)} (h : d ∈ l) : Rows.uptoBulk d <= Rows.uptoBulkAll l:=by
 induction l with
 | nil => cases h
 | cons x r ih =>
  simp only [Rows.uptoBulkAll]
  cases List.mem_cons.1 h with
  | inl e => subst e; omega
  | inr e => have:=ih e; omega
set_option maxHeartbeats 4000000 in
theorem open_nodeU {H : Type} {enc : TypeId × Value -> H} {w : World} {base : Nat} {spare : Nat -> Bool} {held : Bool} : ∀ (N n : Nat) (cs : List Value) (x : DataW H × List MemPlace),SizeOf.sizeOf x.1 < N ->
 DataW.trod enc Tryz.prog w base spare held n 24 cs = some x -> ∃ (nd : Nd) (A : Option Addr) (c : Nat),cs = [.int .i64 nd.k,.string nd.t,.string nd.v,.slice A nd.kids.length c] /\ NAt (fun b _ => b < w.heap.size) w nd A c /\
  ∀ R,Rows.uptoBulk x.1 <= R -> okW R nd
 | 0,_,_,_,h,_ => absurd h (Nat.not_lt_zero _)
 | N + 1,n,cs,x,hN,h => by
  obtain ⟨ys,m,_,hy,hl,hyl,hf⟩:=DataW.trod_struct Tryz.underlying24 h
  have hC : Tryz.prog.cellsOf 24 = 4:=by kernel_rfl
  have hi : Tryz.prog.cellsOf 3 = 1:=by kernel_rfl
  have hs : Tryz.prog.cellsOf 9 = 1:=by kernel_rfl
  have hk : Tryz.prog.cellsOf 22 = 1:=by kernel_rfl
  rw [hC] at hl
  match cs,hl with
  | [c0,c1,c2,c3],_ =>
   match ys,hyl with
   | [y0,y1,y2,y3],_ =>
    have f0:=hf 0 _ rfl
    have f1:=hf 1 _ rfl
    have f2:=hf 2 _ rfl
    have f3:=hf 3 _ rfl
    simp [hi,hs,hk] at f0 f1 f2 f3
    obtain ⟨a,ha,e0,hw⟩:=DataW.trod_int Tryz.underlying3 f0
    obtain ⟨b,hb,e1,_⟩:=DataW.trod_string Tryz.underlying9 f1
    obtain ⟨c,hc,e2,_⟩:=DataW.trod_string Tryz.underlying9 f2
    cases ha
    cases hb
    cases hc
    simp [Lit.wf,IntKind.min,IntKind.max,IntKind.signed,IntKind.bits] at hw
    have hW : ∀ R,Rows.uptoBulk x.1 <= R -> b.size <= R /\ c.size <= R /\ Rows.uptoBulk y3.1 <= R:=by
     intro R hR
     rw [hy] at hR
     simp [Rows.uptoBulk,Rows.uptoBulkAll,e0,e1,e2] at hR
     exact ⟨by omega,by omega,by omega⟩
    rcases open_slice Tryz.underlying22 f3 with ⟨hcs,hx3⟩ | ⟨ad,len,cap,mm,kk,D,Pl,hcs,hbb,hl,hm,hmm,hx,hi⟩
    ·cases hcs
     exact ⟨.mk a b c [],none,0,rfl,NAt.leaf _ _ _ _ _ _,fun R hR => by
      obtain ⟨h1,h2,_⟩:=hW R hR
      simp only [okW,okWL]
      exact ⟨⟨by omega,by omega,h1,h2⟩,trivial⟩⟩
    ·cases hcs
     have hlm : len <= mm:=by rw [hmm]; split <;> omega
     have hsz : ∀ i,i < len -> SizeOf.sizeOf (D i) < N:=fun i hi => by
      have h1 : D i ∈ (List.range len).map D:=List.mem_map.2 ⟨i,List.mem_range.2 hi,rfl⟩
      have h2:=List.sizeOf_lt_of_mem h1
      have h3 : SizeOf.sizeOf y3.1 < SizeOf.sizeOf x.1:=by
       rw [hy]
       simp
       omega
      rw [hx] at h3
      simp at h3
      omega
     obtain ⟨V,hV⟩:=choose_lt (α:=Nd × Option Addr × Nat) (n:=len) (p:=fun i q => (∀ j u,[Value.int .i64 q.1.k,.string q.1.t,.string q.1.v,.slice q.2.1 q.1.kids.length q.2.2][j]? = some u -> w.cell? ((ad.add (i * 4)).add j) = some u) /\ NAt (fun b _ => b < w.heap.size) w q.1 q.2.1 q.2.2 /\ ∀ R,Rows.uptoBulk (D i) <= R -> okW R q.1) (fun i him => by
      obtain ⟨cs',h1,h2⟩:=hi i (by omega)
      rw [hC] at h1
      obtain ⟨_,hlen,hc⟩:=World.cells?_some h1
      obtain ⟨nd,A,c',rfl,hN',hR'⟩:=open_nodeU N kk cs' (D i,Pl i) (hsz i him) h2
      refine ⟨(nd,A,c'),fun j u hu => ?_,hN',hR'⟩
      have hj : j < 4:=by
       have:=(List.getElem?_eq_some_iff.1 hu).1
       simpa using this
      rw [hc j hj,hu])
     refine ⟨.mk a b c ((List.range len).map fun i => (V i).1),some ad,cap,by simp [Nd.k,Nd.t,Nd.v,Nd.kids],?_,fun R hR => ?_⟩
     ·rw [NAt.def_]
      simp only [Nd.kids,List.length_map,List.length_range]
      refine ⟨hl,hm,fun hp => ?_⟩
      have h0:=(hV 0 hp).1 0 _ rfl
      have hs':=World.cell?_spot h0
      obtain ⟨bb,oo,sp⟩:=ad
      obtain rfl : sp = none:=by simpa [Addr.add] using hs'
      simp only [addr_addW] at h0
      refine ⟨bb,oo,rfl,cell_lt h0,fun j hj => ?_⟩
      simp only [List.getElem_map,List.getElem_range]
      obtain ⟨hc,hn,_⟩:=hV j hj
      simp only [addr_addW] at hc
      exact ⟨(V j).2.1,(V j).2.2,hc 0 _ rfl,hc 1 _ rfl,hc 2 _ rfl,hc 3 _ rfl,hn⟩
     ·obtain ⟨h1,h2,h3⟩:=hW R hR
      simp only [okW]
      refine ⟨⟨by omega,by omega,h1,h2⟩,okWL_mem.2 fun nd hnd => ?_⟩
      obtain ⟨i,hi',rfl⟩:=List.mem_map.1 hnd
      have hi':=List.mem_range.1 hi'
      refine (hV i hi').2.2 R ?_
      have hb : Rows.uptoBulk (D i) <= Rows.uptoBulkAll ((List.range len).map D):=bulk_part (List.mem_map.2 ⟨i,List.mem_range.2 hi',rfl⟩)
      rw [hx] at h3
      simp only [Rows.uptoBulk] at h3
      omega
end Go.Proofs.YtbnppjmmlfncmaaGreatDoor
