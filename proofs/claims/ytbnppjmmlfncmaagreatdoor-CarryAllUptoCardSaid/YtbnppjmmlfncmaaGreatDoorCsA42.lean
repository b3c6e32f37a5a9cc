/-
  The walk of CarryOf.
  The walk of CarryAll.
  What every row of this seat's laws shares: the variables that are listed, a world that holds them, what the walks lean on out of them; (stage 15).
  A node that came in, opened: the sizes out of the bulk (for a form with a bound).
-/
import Derived.Test.YtbnppjmmlfncmaaGreatDoorCsA30
import Derived.Test.YtbnppjmmlfncmaaGreatDoorCsA41
import Derived.Test.YtbnppjmmlfncmaaGreatDoorCsA31
import Derived.Test.YtbnppjmmlfncmaaGreatDoorRows
import Derived.Test.YtbnppjmmlfncmaaGreatDoorCards
import Derived.Test.YtbnppjmmlfncmaaGreatDoorTie
import Derived.Test.YtbnppjmmlfncmaaGreatDoorCsA14
import Derived.Test.YtbnppjmmlfncmaaGreatDoorCsA16
import Derived.Deep.Slices
import Derived.Deep.Fields
import Derived.ChangeSame
import Derived.SizedLaws
import Derived.ProofKit
import Derived.OpenShut
import Derived.ShutString
import Derived.Deep.DeepHandedRow
import Derived.Lib.LaidTab
import Derived.Lay
import Derived.Stop.LaidErr
import Derived.SevenTiedAt
set_option maxRecDepth 100000
set_option linter.unusedSimpArgs false
set_option linter.unusedVariables false
namespace Go.Proofs.YtbnppjmmlfncmaaGreatDoor
open Go.RowKit Go.Maps
theorem okC_may {n : Nd} (h : mayN n = 0) (hs : smallT n) : okC n:=⟨may_gram h,hs,(may_shaped h).1⟩
theorem of_same (x : Int) {n : Nd} (h : mayN n = 0) : ofP x n = refP x n:=of_ref x n (may_gram h) (fun e => by
 have:=may_value h
 rw [e] at this
 exact absurd this (by decide))
theorem srN_len {σ : Type} (bad : σ -> Nd -> Bool) (next : σ -> Nd -> Nat -> σ) (n : Nd) : ∀ (s : σ) (q : List Nat),srN bad next n s = some q -> q.length <= sizeN n:=by
 induction n using Nd.ind with
 | h k t v l ih =>
  intro s q hq
  have key : ∀ (r : List Nd) (_ : ∀ m ∈ r,∀ (s : σ) (q : List Nat),srN bad next m s = some q -> q.length <= sizeN m) (f : Nat -> σ) (i : Nat) (q : List Nat),srL bad next r f i = some q -> q.length <= 1 + sizeL r:=by
   intro r
   induction r with
   | nil => intro _ f i q h; rw [srL_nil] at h; cases h
   | cons m r ihr =>
    intro hm f i q h
    rw [srL_cons] at h
    split at h
    ·rename_i q' e
     injection h with h
     subst h
     have:=hm m (by simp) _ _ e
     simp only [List.length_cons,sizeL]
     omega
    ·have:=ihr (fun x hx => hm x (by simp [hx])) f (i + 1) q h
     simp only [sizeL]
     omega
  rw [srN_def] at hq
  split at hq
  ·injection hq with hq
   subst hq
   simp
  ·have:=key l ih _ _ _ hq
   simp only [sizeN]
   omega
theorem both_of (x : Int) (hx : 1 <= x /\ x <= 6) (n : Nd) (A : Option Addr) (c : Nat) (hok : okT n) (hsm : smallT n) (hz : sizeN n <= 200) :
 ∃ (E : Int) (L : List Int),L.length <= 100000000 /\
  (∀ w,Nm.StdW w -> NAt (fun b _ => b < w.heap.size) w n A c -> Calls Tryz.prog 11 #[.int .i64 x,.agg #[.int .i64 n.k,.string n.t,.string n.v,.slice A n.kids.length c]] w fun e w' => ∃ v,e = .returned (.tuple #[v,.int .i64 E]) /\ IRead w' v L /\ Below w.heap.size w w') /\
  (∀ w,NAt (fun b _ => b < w.heap.size) w n A c -> Calls Tryz.prog 12 #[.int .i64 x,.agg #[.int .i64 n.k,.string n.t,.string n.v,.slice A n.kids.length c]] w fun e w' => ∃ v,e = .returned (.tuple #[v,.int .i64 E]) /\ IRead w' v L /\ Below w.heap.size w w'):=by
 refine ⟨if mayN n = 0 then (if (refP x n).isSome = true then 20 else 0) else mayN n,if mayN n = 0 then iP ((refP x n).getD []) else [],?_,fun w hw hA => ?_,fun w hA => ?_⟩
 ·split
  ·simp only [iP,List.length_map]
   cases hr : refP x n with
   | none => simp
   | some q =>
    have:=srN_len _ _ n _ q hr
    simp only [Option.getD_some]
    omega
  ·simp
 ·refine of_gen x hx n (refP x n) (fun h => ?_) A c w hw hA hok (by omega)
  rw [<- of_same x h]
  exact root_all x hx n (okC_may h hsm) (by omega)
 ·exact rof_gen x hx n (fun h => ⟨first_any x hx n,ChainOk.root (okC_may h hsm) (by omega)⟩) A c w hA hsm (by omega)
set_option maxHeartbeats 8000000 in
theorem walk_CarryOf (x : Int) (hxw : (Lit.int .i64 x).wf = true) (n : Nd) (A : Option Addr) (c : Nat) (ho : okW 1048576 n) (w : World) (hw : Nm.StdW w) (hA : NAt (fun b _ => b < w.heap.size) w n A c) :
 Calls Tryz.prog 3 #[.int .i64 x,.agg #[.int .i64 n.k,.string n.t,.string n.v,.slice A n.kids.length c]] w fun e w' => e = .returned (.bool true) /\ Below w.heap.size w w':=by
 have bX:=Blk.new w 24 #[.int .i64 n.k,.string n.t,.string n.v,.slice A n.kids.length c]
 have al1:=al_nd w #[.int .i64 n.k,.string n.t,.string n.v,.slice A n.kids.length c]
 have hL:=fun w' h => clives_any w' h
 obtain ⟨W0,hW0⟩ : ∃ W0,w.alloc (.cells #[.int .i64 n.k,.string n.t,.string n.v,.slice A n.kids.length c] 24) = W0:=⟨_,rfl⟩
 rw [hW0] at bX al1
 have HX:=Lib.hid bX
 have HB:=Lib.hid al1
 have HA:=Lib.hid (hA.upp al1)
 obtain ⟨x0,x1,x2,x3⟩:=nbox bX
 have HF:=Lib.hid (cfew_any n _ A c W0 HA.out)
 have HK:=Lib.hid (few2_ok ho (by omega))
 have hsm:=small_of n ho
 clear bX al1 hA
 go_enter Tryz.func3,Tryz.ntmps3
 go_wp2_with fail
 clear hW0
 refine HF.out.mono ?_
 rintro e w1 ⟨rfl,hb1⟩
 generalize decide (0 <= fewN n 200 20) = f1 at *
 have HX1:=Lib.hid (HX.out.below hb1 HX.out.lt)
 have HB1:=Lib.hid (HB.out.trans (hb1.mono HB.out.size))
 have HA1:=Lib.hid (HA.out.upp hb1)
 have hs1:=HB1.out.size
 clear hb1 HX HB HA HF x0 x1 x2 x3
 cases f1 with
 | false =>
  clear HK
  go_wp2_with fail
  refine (hL _ (hw.below HB1.out)).mono ?_
  rintro e w3 ⟨rfl,hb3⟩
  have HB3:=Lib.hid (HB1.out.trans (hb3.mono hs1))
  clear hb3
  go_wp2
  go_ret
  exact ⟨rfl,HB3.out⟩
 | true =>
  obtain ⟨hok,hsz⟩:=HK.out rfl
  obtain ⟨E,L,hLl,hP,hR⟩ : ∃ (E : Int) (L : List Int),L.length <= 100000000 /\
   (∀ w,Nm.StdW w -> NAt (fun b _ => b < w.heap.size) w n A c -> Calls Tryz.prog 11 #[.int .i64 x,.agg #[.int .i64 n.k,.string n.t,.string n.v,.slice A n.kids.length c]] w fun e w' => ∃ v,e = .returned (.tuple #[v,.int .i64 E]) /\ IRead w' v L /\ Below w.heap.size w w') /\
   (∀ w,NAt (fun b _ => b < w.heap.size) w n A c -> Calls Tryz.prog 12 #[.int .i64 x,.agg #[.int .i64 n.k,.string n.t,.string n.v,.slice A n.kids.length c]] w fun e w' => ∃ v,e = .returned (.tuple #[v,.int .i64 E]) /\ IRead w' v L /\ Below w.heap.size w w'):=by
   by_cases hx : 1 <= x /\ x <= 6
   ·exact both_of x hx n A c hok hsm hsz
   ·have hx2 : x < 1 \/ 6 < x:=by omega
    refine ⟨50,[],by simp,fun w _ _ => (of_no x hx2 n A c w).mono ?_,fun w _ => (rof_no x hx2 n A c w).mono ?_⟩
    iterate 2
     ·rintro e w' ⟨rfl,hb⟩; exact ⟨_,rfl,IRead.nil _ _,hb⟩
  have HLL:=Lib.hid hLl
  have HRR:=Lib.hid hR
  have hC1:=hP w1 (hw.below HB1.out) HA1.out
  obtain ⟨x0,x1,x2,x3⟩:=nbox HX1.out
  clear HK hsm hok hsz ho hxw hP hR hLl
  go_wp2_with fail
  refine hC1.mono ?_
  rintro e w2 ⟨va,rfl,hva,hb2⟩
  have HX2:=Lib.hid (HX1.out.below hb2 HX1.out.lt)
  have HB2:=Lib.hid (HB1.out.trans (hb2.mono hs1))
  have HA2:=Lib.hid (HA1.out.upp hb2)
  have hs2:=HB2.out.size
  have HVA:=Lib.hid hva
  have hC2:=HRR.out w2 HA2.out
  obtain ⟨x0,x1,x2,x3⟩:=nbox HX2.out
  clear hb2 HX1 HB1 HA1 hs1 hva hC1 HRR
  go_wp2_with fail
  refine hC2.mono ?_
  rintro e w3 ⟨vb,rfl,hvb,hb3⟩
  have HB3:=Lib.hid (HB2.out.trans (hb3.mono hs2))
  have hs3:=HB3.out.size
  have hS:=same_yes va vb L w3 (HVA.out.below hb3) hvb HLL.out
  clear hb3 HX2 HB2 HA2 hs2 hvb hC2 x0 x1 x2 x3 HVA
  go_wp2_with fail
  refine hS.mono ?_
  rintro e w4 ⟨rfl,hb4⟩
  have HB4:=Lib.hid (HB3.out.trans (hb4.mono hs3))
  have hL4:=hL _ (hw.below HB4.out)
  have z1 : decide (E = E) = true:=decide_eq_true rfl
  have z2 : (E == E) = true:=by simp
  clear hb4 hS hL
  go_wp2_with fail
  refine hL4.mono ?_
  rintro e w5 ⟨rfl,hb5⟩
  have HB5:=Lib.hid (HB4.out.trans (hb5.mono HB4.out.size))
  clear hb5
  go_wp2
  go_ret
  exact ⟨rfl,HB5.out⟩
set_option maxHeartbeats 8000000 in
theorem walk_CarryAll (n : Nd) (A : Option Addr) (c : Nat) (ho : okW 1048576 n) (w : World) (hw : Nm.StdW w) (hA : NAt (fun b _ => b < w.heap.size) w n A c) :
 Calls Tryz.prog 4 #[.agg #[.int .i64 n.k,.string n.t,.string n.v,.slice A n.kids.length c]] w fun e w' => e = .returned (.bool true) /\ Below w.heap.size w w':=by
 have bX:=Blk.new w 24 #[.int .i64 n.k,.string n.t,.string n.v,.slice A n.kids.length c]
 have al1:=al_nd w #[.int .i64 n.k,.string n.t,.string n.v,.slice A n.kids.length c]
 have hL:=fun w' h => clives_any w' h
 obtain ⟨W0,hW0⟩ : ∃ W0,w.alloc (.cells #[.int .i64 n.k,.string n.t,.string n.v,.slice A n.kids.length c] 24) = W0:=⟨_,rfl⟩
 rw [hW0] at bX al1
 have HX:=Lib.hid bX
 have HB:=Lib.hid al1
 have HA:=Lib.hid (hA.upp al1)
 obtain ⟨x0,x1,x2,x3⟩:=nbox bX
 have HF:=Lib.hid (cfew_any n _ A c W0 HA.out)
 have HK:=Lib.hid (few2_ok ho (by omega))
 have hsm:=small_of n ho
 clear bX al1 hA
 go_enter Tryz.func4,Tryz.ntmps4
 go_wp2_with fail
 clear hW0
 refine HF.out.mono ?_
 rintro e w1 ⟨rfl,hb1⟩
 generalize decide (0 <= fewN n 200 20) = f1 at *
 have HX1:=Lib.hid (HX.out.below hb1 HX.out.lt)
 have HB1:=Lib.hid (HB.out.trans (hb1.mono HB.out.size))
 have HA1:=Lib.hid (HA.out.upp hb1)
 have hs1:=HB1.out.size
 clear hb1 HX HB HA HF x0 x1 x2 x3
 cases f1 with
 | false =>
  clear HK
  go_wp2_with fail
  refine (hL _ (hw.below HB1.out)).mono ?_
  rintro e w3 ⟨rfl,hb3⟩
  have HB3:=Lib.hid (HB1.out.trans (hb3.mono hs1))
  clear hb3
  go_wp2
  go_ret
  exact ⟨rfl,HB3.out⟩
 | true =>
  obtain ⟨hok,hsz⟩:=HK.out rfl
  have HALL : Hid (∀ x : Int,1 <= x /\ x <= 6 -> ∃ (E : Int) (L : List Int),L.length <= 100000000 /\
   (∀ w,Nm.StdW w -> NAt (fun b _ => b < w.heap.size) w n A c -> Calls Tryz.prog 11 #[.int .i64 x,.agg #[.int .i64 n.k,.string n.t,.string n.v,.slice A n.kids.length c]] w fun e w' => ∃ v,e = .returned (.tuple #[v,.int .i64 E]) /\ IRead w' v L /\ Below w.heap.size w w') /\
   (∀ w,NAt (fun b _ => b < w.heap.size) w n A c -> Calls Tryz.prog 12 #[.int .i64 x,.agg #[.int .i64 n.k,.string n.t,.string n.v,.slice A n.kids.length c]] w fun e w' => ∃ v,e = .returned (.tuple #[v,.int .i64 E]) /\ IRead w' v L /\ Below w.heap.size w w')):=Lib.hid fun x hx => both_of x hx n A c hok hsm hsz
  clear HK hsm hok hsz ho
  go_wp2
  go_loopw [4] (fun i wr => ∃ j : Nat,j <= 6 /\ i = .int .i64 ((j : Int) + 1) /\ Hid (Below w1.heap.size w1 wr)) (fun i _ => 7 - (intOf i).toNat)
  case atStart => exact ⟨0,by omega,rfl,Lib.hid (Below.refl _ _)⟩
  case round =>
   obtain ⟨j,hj,rfl,HW⟩:=hrel
   have HBr:=Lib.hid (HB1.out.trans (HW.out.mono hs1))
   by_cases hlt : j < 6
   case pos =>
    obtain ⟨E,L,hLl,hP,hR⟩:=HALL.out ((j : Int) + 1) (by omega)
    have HLL:=Lib.hid hLl
    have HRR:=Lib.hid hR
    have hA1:=HA1.out.upp HW.out
    have hX1:=HX1.out.below HW.out HX1.out.lt
    have hC1:=hP wr (hw.below HBr.out) hA1
    obtain ⟨x0,x1,x2,x3⟩:=nbox hX1
    have hle : ((j : Int) + 1) <= 6:=by omega
    clear hP hR hLl HALL
    go_wp2_with fail
    refine hC1.mono ?_
    rintro e w2 ⟨va,rfl,hva,hb2⟩
    have hX2:=hX1.below hb2 hX1.lt
    have hA2:=hA1.upp hb2
    have HVA:=Lib.hid hva
    have hC2:=HRR.out w2 hA2
    have HB2:=Lib.hid (HW.out.trans (hb2.mono HW.out.size))
    obtain ⟨x0,x1,x2,x3⟩:=nbox hX2
    clear hb2 hX1 hA1 hva hC1 HRR hX2 hA2
    go_wp2_with fail
    refine hC2.mono ?_
    rintro e w3 ⟨vb,rfl,hvb,hb3⟩
    have HB3:=Lib.hid (HB2.out.trans (hb3.mono HB2.out.size))
    have hS:=same_yes va vb L w3 (HVA.out.below hb3) hvb HLL.out
    clear hb3 hvb hC2 x0 x1 x2 x3 HVA
    go_wp2_with fail
    refine hS.mono ?_
    rintro e w4 ⟨rfl,hb4⟩
    have HB4:=Lib.hid (HB3.out.trans (hb4.mono HB3.out.size))
    have z1 : decide (E = E) = true:=decide_eq_true rfl
    have z2 : (E == E) = true:=by simp
    have z3 : (E != E) = false:=by simp
    clear hb4 hS
    go_wp2
    go_roundw
    case rel => exact ⟨j + 1,by omega,by go_num,HB4⟩
    case measure => first | (simp [intOf]; done) | (simp [intOf]; omega)
   case neg =>
    obtain rfl : j = 6:=by omega
    have hL4:=hL _ (hw.below HBr.out)
    clear HALL
    go_wp2_with fail
    refine hL4.mono ?_
    rintro e w5 ⟨rfl,hb5⟩
    have HB5:=Lib.hid (HBr.out.trans (hb5.mono HBr.out.size))
    clear hb5
    go_wp2
    go_ret
    exact ⟨rfl,HB5.out⟩
open Go.RowKit Go.ChangeShapes Go.WideShapes Go.Deep
theorem own : ownKnob Tryz.prog.godebug = none:=by kernel_rfl
theorem laidOut : laidOutB Tryz.prog = true:=by kernel_rfl
def laidL : List (String × DataW Unit) := [("math/bits.deBruijn32tab", Rows.laid_math_bits_deBruijn32tab), ("math/bits.deBruijn64tab", Rows.laid_math_bits_deBruijn64tab), ("internal/strconv.uint64pow10", Rows.laid_internal_strconv_uint64pow10), ("unicode/utf8.acceptRanges", Rows.laid_unicode_utf8_acceptRanges), ("strconv.ErrRange", Rows.laid_strconv_ErrRange), ("strconv.ErrSyntax", Rows.laid_strconv_ErrSyntax), ("unicode/utf8.first", Rows.laid_unicode_utf8_first)]
theorem laidL_eq : laidL = [("math/bits.deBruijn32tab", Rows.laid_math_bits_deBruijn32tab), ("math/bits.deBruijn64tab", Rows.laid_math_bits_deBruijn64tab), ("internal/strconv.uint64pow10", Rows.laid_internal_strconv_uint64pow10), ("unicode/utf8.acceptRanges", Rows.laid_unicode_utf8_acceptRanges), ("strconv.ErrRange", Rows.laid_strconv_ErrRange), ("strconv.ErrSyntax", Rows.laid_strconv_ErrSyntax), ("unicode/utf8.first", Rows.laid_unicode_utf8_first)] := rfl
theorem laid_met (os : Os) (args : Array Value) : laidMetH Tryz.prog laidL ((World.laidAll Tryz.prog os laidL).forCall (fun _ _ => 0) ⟨#[],args,[]⟩).memory:=by
 rw [MakeChecks.laidMetH_plain _ _ _ (by kernel_rfl)]
 exact laidMet_laidAll _ (by kernel_rfl) (by kernel_rfl)
theorem shapedW (os : Os) (args : Array Value) : ((World.laidAll Tryz.prog os laidL).forCall (fun _ _ => 0) ⟨#[],args,[]⟩).Shaped Tryz.prog :=
 World.shaped_of_ZipB (by kernel_rfl) (by kernel_rfl)
theorem pow_data : (Rows.laid_internal_strconv_uint64pow10 : DataW Unit) = Lib.tabData .u64 Lib.pow10Tab:=by kernel_rfl
theorem tPow : (Tryz.prog.globals[5]?).map (·.type) = some 233:=by kernel_rfl
theorem tRange : (Tryz.prog.globals[2]?).map (·.type) = some 95:=by kernel_rfl
theorem star : "*" ++ "errors.errorString" = "*errors.errorString" := by decide
theorem row_err (u : TypeId) (h : Tryz.prog.typeName? 3 u = some "*errors.errorString") : u = 237 :=
 typeName_ptr_named (nm := "errors.errorString") (by rw [star]; kernel_rfl) (by kernel_rfl) (by decide) u (by rw [star]; exact h)
theorem std_of {W : World} (hL : laidMetH Tryz.prog laidL W) (hsh : W.ShapedOpen Tryz.prog) : Nm.StdW W:=by
 rw [MakeChecks.laidMetH_plain _ _ _ (by kernel_rfl),laidL_eq] at hL
 refine ⟨Tryz.laysM145.s1_3 W hsh,?_,?_⟩
 ·have h5:=hL.tail.tail.tail.tail
  unfold Rows.laid_strconv_ErrRange at h5
  obtain ⟨a,s,h,_⟩:=laid_sentinel h5 Nm.gRange tRange Tryz.underlying95 row_err Tryz.underlying237 Tryz.underlying239 rfl rfl Tryz.underlying9 (by kernel_rfl) (by kernel_rfl)
  exact ⟨_,_,h⟩
 ·have h3:=hL.tail.tail
  rw [pow_data] at h3
  exact Lib.tabIs_of_head Nm.gPow tPow Tryz.underlying233 Tryz.underlying210 (by kernel_rfl) (by kernel_rfl) h3
theorem bulk_part {H : Type} {d : DataW H} {l : List (DataW H)} (h : d ∈ l) : Rows.uptoBulk d <= Rows.uptoBulkAll l:=by
 induction l with
 | nil => cases h
 | cons x r ih =>
  simp only [Rows.uptoBulkAll]
  cases List.mem_cons.1 h with
  | inl e => subst e; omega
  | inr e => have:=ih e; omega
set_option maxHeartbeats 4000000 in
theorem open_nodeU {H : Type} {enc : TypeId × Value -> H} {w : World} {base : Nat} {spare : Nat -> Bool} {held : Bool} : ∀ (N n : Nat) (cs : List Value) (x : DataW H × List MemPlace),SizeOf.sizeOf x.1 < N ->
 DataW.trod enc Tryz.prog w base spare held n 24 cs = some x -> ∃ (nd : Nd) (A : Option Addr) (c : Nat),cs = [.int .i64 nd.k,.string nd.t,.string nd.v,.slice A nd.kids.length c] /\ NAt (fun b _ => b < w.heap.size) w nd A c /\
  ∀ R,Rows.uptoBulk x.1 <= R -> okW R nd
 | 0,_,_,_,h,_ => absurd h (Nat.not_lt_zero _)
 | N + 1,n,cs,x,hN,h => by
  obtain ⟨ys,m,_,hy,hl,hyl,hf⟩:=DataW.trod_struct Tryz.underlying24 h
  have hC : Tryz.prog.cellsOf 24 = 4:=by kernel_rfl
  have hi : Tryz.prog.cellsOf 3 = 1:=by kernel_rfl
  have hs : Tryz.prog.cellsOf 9 = 1:=by kernel_rfl
  have hk : Tryz.prog.cellsOf 22 = 1:=by kernel_rfl
  rw [hC] at hl
  match cs,hl with
  | [c0,c1,c2,c3],_ =>
   match ys,hyl with
   | [y0,y1,y2,y3],_ =>
    have f0:=hf 0 _ rfl
    have f1:=hf 1 _ rfl
    have f2:=hf 2 _ rfl
    have f3:=hf 3 _ rfl
    simp [hi,hs,hk] at f0 f1 f2 f3
    obtain ⟨a,ha,e0,hw⟩:=DataW.trod_int Tryz.underlying3 f0
    obtain ⟨b,hb,e1,_⟩:=DataW.trod_string Tryz.underlying9 f1
    obtain ⟨c,hc,e2,_⟩:=DataW.trod_string Tryz.underlying9 f2
    cases ha
    cases hb
    cases hc
    simp [Lit.wf,IntKind.min,IntKind.max,IntKind.signed,IntKind.bits] at hw
    have hW : ∀ R,Rows.uptoBulk x.1 <= R -> b.size <= R /\ c.size <= R /\ Rows.uptoBulk y3.1 <= R:=by
     intro R hR
     rw [hy] at hR
     simp [Rows.uptoBulk,Rows.uptoBulkAll,e0,e1,e2] at hR
     exact ⟨by omega,by omega,by omega⟩
    rcases open_slice Tryz.underlying22 f3 with ⟨hcs,hx3⟩ | ⟨ad,len,cap,mm,kk,D,Pl,hcs,hbb,hl,hm,hmm,hx,hi⟩
    ·cases hcs
     exact ⟨.mk a b c [],none,0,rfl,NAt.leaf _ _ _ _ _ _,fun R hR => by
      obtain ⟨h1,h2,_⟩:=hW R hR
      simp only [okW,okWL]
      exact ⟨⟨by omega,by omega,h1,h2⟩,trivial⟩⟩
    ·cases hcs
     have hlm : len <= mm:=by rw [hmm]; split <;> omega
     have hsz : ∀ i,i < len -> SizeOf.sizeOf (D i) < N:=fun i hi => by
      have h1 : D i ∈ (List.range len).map D:=List.mem_map.2 ⟨i,List.mem_range.2 hi,rfl⟩
      have h2:=List.sizeOf_lt_of_mem h1
      have h3 : SizeOf.sizeOf y3.1 < SizeOf.sizeOf x.1:=by
       rw [hy]
       simp
       omega
      rw [hx] at h3
      simp at h3
      omega
     obtain ⟨V,hV⟩:=choose_lt (α:=Nd × Option Addr × Nat) (n:=len) (p:=fun i q => (∀ j u,[Value.int .i64 q.1.k,.string q.1.t,.string q.1.v,.slice q.2.1 q.1.kids.length q.2.2][j]? = some u -> w.cell? ((ad.add (i * 4)).add j) = some u) /\ NAt (fun b _ => b < w.heap.size) w q.1 q.2.1 q.2.2 /\ ∀ R,Rows.uptoBulk (D i) <= R -> okW R q.1) (fun i him => by
      obtain ⟨cs',h1,h2⟩:=hi i (by omega)
      rw [hC] at h1
      obtain ⟨_,hlen,hc⟩:=World.cells?_some h1
      obtain ⟨nd,A,c',rfl,hN',hR'⟩:=open_nodeU N kk cs' (D i,Pl i) (hsz i him) h2
      refine ⟨(nd,A,c'),fun j u hu => ?_,hN',hR'⟩
      have hj : j < 4:=by
       have:=(List.getElem?_eq_some_iff.1 hu).1
       simpa using this
      rw [hc j hj,hu])
     refine ⟨.mk a b c ((List.range len).map fun i => (V i).1),some ad,cap,by simp [Nd.k,Nd.t,Nd.v,Nd.kids],?_,fun R hR => ?_⟩
     ·rw [NAt.def_]
      simp only [Nd.kids,List.length_map,List.length_range]
      refine ⟨hl,hm,fun hp => ?_⟩
      have h0:=(hV 0 hp).1 0 _ rfl
      have hs':=World.cell?_spot h0
      obtain ⟨bb,oo,sp⟩:=ad
      obtain rfl : sp = none:=by simpa [Addr.add] using hs'
      simp only [addr_addW] at h0
      refine ⟨bb,oo,rfl,cell_lt h0,fun j hj => ?_⟩
      simp only [List.getElem_map,List.getElem_range]
      obtain ⟨hc,hn,_⟩:=hV j hj
      simp only [addr_addW] at hc
      exact ⟨(V j).2.1,(V j).2.2,hc 0 _ rfl,hc 1 _ rfl,hc 2 _ rfl,hc 3 _ rfl,hn⟩
     ·obtain ⟨h1,h2,h3⟩:=hW R hR
      simp only [okW]
      refine ⟨⟨by omega,by omega,h1,h2⟩,okWL_mem.2 fun nd hnd => ?_⟩
      obtain ⟨i,hi',rfl⟩:=List.mem_map.1 hnd
      have hi':=List.mem_range.1 hi'
      refine (hV i hi').2.2 R ?_
      have hb : Rows.uptoBulk (D i) <= Rows.uptoBulkAll ((List.range len).map D):=bulk_part (List.mem_map.2 ⟨i,List.mem_range.2 hi',rfl⟩)
      rw [hx] at h3
      simp only [Rows.uptoBulk] at h3
      omega
end Go.Proofs.YtbnppjmmlfncmaaGreatDoor
