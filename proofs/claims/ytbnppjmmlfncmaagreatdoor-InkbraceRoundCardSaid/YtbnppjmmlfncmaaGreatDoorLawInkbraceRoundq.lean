/-
  The statement of InkbraceRound (hexaplalaw16) as its card, out of its walk. Conditions: the variables of the library that its row lists hold what the program's text lays.
-/
import Derived.Test.YtbnppjmmlfncmaaGreatDoorIrA40
import Derived.Test.YtbnppjmmlfncmaaGreatDoorIrA19
import Derived.ChangeOld
import Derived.Below
import Derived.SizedLaws
set_option linter.unusedVariables false
set_option maxRecDepth 100000
namespace Go.Proofs.YtbnppjmmlfncmaaGreatDoor.inkbraceRound
open Go.ChangeShapes Go.WideShapes Go.ChangeAt Go.RowKit
open Go.ChangeMaps (open_string shut_string)
theorem contract (H : Type) (enc : TypeId × Value -> H) (W : World) (base : Nat) (args : Array Value) (ds gs : List (DataW H)) (before : List MemPlace)
 (hval : ∀ (j : Nat) t v,Tryz.f6.params[j]? = some t -> args[j]? = some v -> Value.okWide Tryz.prog W .any base t v)
 (hW : DataW.Whole enc Tryz.prog Tryz.f6.params.toList Rows.inkbraceRoundSpec.vars false W args.toList ds gs before)
 (hsz : (DataW.weightsEach Tryz.prog (Tryz.f6.params.toList ++ Rows.inkbraceRoundSpec.plain.varTypes Tryz.prog) (ds ++ gs)).all (· <= reachBytes) = true) (hstd : Nm.StdW W) :
 Calls Tryz.prog 6 args W fun e W' => ∃ v,e = .returned v /\ Rows.inkbraceRoundSpec.post enc Tryz.prog Tryz.f6 false true false false W args v W':=by
 have hW':=hW
 obtain ⟨p,q,hA0,hV,rfl,hfz,hnd⟩:=hW
 have hA : DataW.TrodAll enc Tryz.prog W 0 (fun _ => true) true Tryz.f6.params.toList args.toList ds p:=hA0
 rw [Tryz.params6] at hA hval hsz
 obtain ⟨v0,vs0,d0,ds0,p0,q0,hargs,rfl,rfl,h0,r0⟩:=trodAll_cons hA
 obtain ⟨rfl,rfl,rfl⟩:=trodAll_nil r0
 obtain rfl : args = #[v0]:=by cases args; simp_all
 obtain ⟨rfl,rfl⟩:=trodVars_none hV
 have k0:=h0
 have lt0 : ∀ x ∈ p0,x.block < W.heap.size:=by obtain ⟨m,hm⟩:=k0; exact DataW.trod_lt m _ _ _ hm
 obtain ⟨cs0,rfl,sz0⟩:=okWide_struct Tryz.underlying24 (hval 0 24 v0 rfl rfl)
 obtain ⟨n0,A0,c0,e0,w0,o0⟩ : ∃ (nd : Nd) (A : Option Addr) (c : Nat),cs0 = #[.int .i64 nd.k,.string nd.t,.string nd.v,.slice A nd.kids.length c] /\ NAt (fun b _ => b < W.heap.size) W nd A c /\ okW 140737488355328 nd:=by
  obtain ⟨fuel,hf⟩:=h0
  obtain ⟨nd,A,c,hc,hn,hr⟩:=open_node _ _ _ _ (Nat.lt_succ_self _) hf
  refine ⟨nd,A,c,?_,hn,hr _ (sized_node hsz (j:=0) rfl rfl)⟩
  simp [Value.cells] at hc
  cases cs0
  simp_all
 subst e0
 clear hA0
 refine (walk_InkbraceRound n0 A0 c0 o0 W hstd w0).mono fun e W' ⟨he,bel⟩ => ?_
 subst he
 exact ⟨_,rfl,_,_,_,[],_,[],hW',trodAll_mk1 (shut_bool Tryz.underlying4 _),(trodAll_cons_mk (Below.trod laidOut (by kernel_rfl) (of_decide_eq_true (by kernel_rfl)) k0 bel lt0) trodAll_mk0),rfl,bel.frame _,fun h => by cases h⟩
theorem reads (os : Os) {H : Type} (enc : TypeId × Value -> H) : ∃ places,DataW.whole enc Tryz.prog ((World.laidAll Tryz.prog os laidL).forCall (fun _ _ => 0) ⟨#[],#[.agg #[.int .i64 0,.string ByteArray.empty,.string ByteArray.empty,.slice none 0 0]],[]⟩).memory Tryz.f6.params.toList Rows.inkbraceRoundSpec.vars false #[.agg #[.int .i64 0,.string ByteArray.empty,.string ByteArray.empty,.slice none 0 0]].toList 8 = some ([.agg [.lit (.int .i64 0),.lit (.string []),.lit (.string []),.nil]],[],places) :=
 ⟨[],by kernel_rfl⟩
theorem lifted (os : Os) (started : os.Started) (H : Type) (enc : TypeId × Value -> H) (F : Stop.Interp) :
 ReturnsInHanded {} Tryz.checked os 6 .any ((OpenSpec.ofChange Rows.inkbraceRoundSpec).preRow enc Tryz.prog Tryz.f6 Rows.inkbraceRoundRow.domain false Rows.inkbraceRoundRow.laid) (((OpenSpec.ofChange Rows.inkbraceRoundSpec).at F).post enc Tryz.prog Tryz.f6 false true false false):=by
 obtain ⟨places,hx⟩:=reads os enc
 have hok : Input.okWideB Tryz.checked.prog ((World.laidAll Tryz.prog os laidL).forCall (fun _ _ => 0) ⟨#[],#[.agg #[.int .i64 0,.string ByteArray.empty,.string ByteArray.empty,.slice none 0 0]],[]⟩) 6 ⟨#[],#[.agg #[.int .i64 0,.string ByteArray.empty,.string ByteArray.empty,.slice none 0 0]],[]⟩ = true:=by kernel_rfl
 refine returnsInHanded_of_row (C:=Tryz.checked) (s:=OpenSpec.ofChange Rows.inkbraceRoundSpec) own started (by kernel_rfl) Tryz.func6
  ⟨World.laidAll Tryz.prog os laidL,fun _ _ => 0,⟨#[],#[.agg #[.int .i64 0,.string ByteArray.empty,.string ByteArray.empty,.slice none 0 0]],[]⟩,World.laidAll_os _ _ _,shapedW os _,(Input.okWide_of_okWideB (base:=0) hok).1,(Input.okWide_of_okWideB hok).2,
   OpenSpec.preRow_of_cond 8 hx (by kernel_rfl) (fun k hk => by cases hk) (by kernel_rfl) (laid_met os _),
   by simp only [Assume.holds]; exact ⟨by simp,by simp,by simp,by simp,by simp⟩⟩ ?_
 intro W base args ds gs before hval hW _ hk hsz hL hsh _
 exact contract H enc W base args ds gs before hval hW hsz (std_of hL hsh)
theorem said : Rows.InkbraceRoundSaid :=
 OpenClaim.holds_of_cond 6 Tryz.f6 rfl rfl rfl rfl rfl rfl rfl ⟨rfl,rfl,rfl,rfl,rfl⟩ rfl rfl rfl rfl rfl (by kernel_rfl) Tryz.func6 (by kernel_rfl)
  (of_decide_eq_true (by kernel_rfl)) (by unfold Func.isWrapper; first | (rw [if_pos (by decide +kernel)]; kernel_rfl) | (rw [if_neg (by decide +kernel)]; exact ⟨rfl,rfl⟩))
  (fun os started H enc _ F => by rw [OpenClaim.pre_eq_preRow]; exact lifted os started H enc F)
theorem plain (f : FuncId) (fn : Func) (hf : Tryz.pinned.checked.prog.funcNamed "hexapla/hexaplalaw16.InkbraceRound" = some f) (hfn : Tryz.pinned.checked.prog.funcs[f]? = some fn) :
 true = Tryz.pinned.checked.prog.looks [] /\ ∀ (j : Nat) t,fn.params[j]? = some t -> Tryz.pinned.checked.prog.wantsStandIn t = false:=by
 obtain rfl : f = 6 := Option.some.inj ((show Tryz.prog.funcNamed "hexapla/hexaplalaw16.InkbraceRound" = some 6 by kernel_rfl).symm.trans hf) |>.symm
 obtain rfl : fn = Tryz.f6:=(Option.some.inj (Tryz.func6.symm.trans hfn)).symm
 refine ⟨by kernel_rfl,fun j t ht => ?_⟩
 rw [Tryz.params6] at ht
 have hm : t ∈ [24]:=by simpa using Array.mem_of_getElem? ht
 have hall : ([24].all fun u => !Tryz.prog.wantsStandIn u) = true:=by kernel_rfl
 exact (show Tryz.prog.wantsStandIn t = false by simpa using List.all_eq_true.1 hall t hm)
theorem proved : Rows.InkbraceRoundCardSaid :=
 Claim7.holds_tied_plain_at .later [] _ _ _ _ said (fun _ h => by cases h) (by kernel_rfl) (fun _ h => by cases h) inkbraceRound_row_tie rfl ⟨rfl,rfl⟩ (by kernel_rfl) rfl plain (by kernel_rfl)
#print axioms proved
end Go.Proofs.YtbnppjmmlfncmaaGreatDoor.inkbraceRound
