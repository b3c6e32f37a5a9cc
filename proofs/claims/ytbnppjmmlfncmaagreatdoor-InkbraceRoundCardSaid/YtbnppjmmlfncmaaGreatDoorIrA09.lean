/-
  names: Cut and Join of the program, whole.
  names: Join of the program.
  The reference's Local (hexaplaref04): the same answer.
  The reference's Space (hexaplaref04): the same answer.
  carry: a key as a word, the program's and the reference's.
  A region that draws its order, within a round of a range over a function: by the laws for a region that stands alone. No program is read here.
  A row that is appended to, call by call: what lay is as it lay but for the row's own block. No program is read here.
-/
import Derived.Test.YtbnppjmmlfncmaaGreatDoorIrA08
import Derived.Test.YtbnppjmmlfncmaaGreatDoorIrA01
import Derived.Test.YtbnppjmmlfncmaaGreatDoorIrA07
import Derived.Lib.IndexAny
import Derived.RangeFuncFrom
import Derived.RangeFuncNested
import Derived.RangeFuncCalls
import Derived.RangeFuncLeaves
import Derived.OrdersIn
import Derived.OrdersHeld
import Derived.Deep.RegionHeld3
set_option maxRecDepth 100000
set_option linter.unusedSectionVars false
namespace Go.Proofs.YtbnppjmmlfncmaaGreatDoor
open Go.RowKit Go.Maps
theorem scut_any (s : ByteArray) (w : World) (hm : s.size <= 140737488355328) :
 Calls Tryz.prog 147 #[.string s,.string ⟨#[125]⟩] w fun e w' => e = CutAtEnd s.data.toList /\ ∃ n,w' = w.drewN n:=by
 unfold CutAtEnd
 go_enter Tryz.func147,Tryz.ntmps147
 go_wp2_with (go_at_call 164; refine (lcut_any s _ hm).mono ?_; unfold CutAtEnd; rintro e w' ⟨rfl,n,rfl⟩)
 go_ret3
 exact ⟨rfl,n,rfl⟩
def CutEnd (l : List UInt8) : Ending :=
 match cutL l with
 | none => .returned (.tuple #[.string ⟨#[]⟩,.string ⟨#[]⟩,.bool false])
 | some p => .returned (.tuple #[.string ⟨p.1.toArray⟩,.string ⟨p.2.toArray⟩,.bool true])
theorem cutEnd_none {l : List UInt8} (h : cutL l = none) : CutEnd l = .returned (.tuple #[.string ⟨#[]⟩,.string ⟨#[]⟩,.bool false]):=by unfold CutEnd; rw [h]
theorem cutEnd_some {l a b : List UInt8} (h : cutL l = some (a,b)) : CutEnd l = .returned (.tuple #[.string ⟨a.toArray⟩,.string ⟨b.toArray⟩,.bool true]):=by unfold CutEnd; rw [h]
theorem cutL_long {l : List UInt8} (h : 48 < l.length) : cutL l = none:=by
 cases l with
 | nil => rfl
 | cons c t => simp only [cutL]; rw [if_pos (by simpa using h)]
theorem cutL_plain {l : List UInt8} (h : ¬ 48 < l.length) (hp : Lib.hasPrefix l [123] = false) : cutL l = if localL l = true then some ([],l) else none:=by
 cases l with
 | nil => rfl
 | cons c t =>
  simp only [cutL]
  have hc : (c.toNat : Int) ≠ 123:=by
   intro hc
   have : c = 123:=UInt8.toNat_inj.1 (by rw [show (123 : UInt8).toNat = 123 from rfl]; omega)
   subst this
   cases hp
  rw [if_neg (by simpa using h),if_neg hc]
theorem prefix_cons {l : List UInt8} (hp : Lib.hasPrefix l [123] = true) : ∃ t,l = 123 :: t:=by
 cases l with
 | nil => cases hp
 | cons c t =>
  refine ⟨t,?_⟩
  simp [Lib.hasPrefix,List.isPrefixOf] at hp
  rw [<- hp]
theorem cutL_brace {t : List UInt8} (h : ¬ 48 < t.length + 1) : cutL (123 :: t) = if spaceL (cutAt t).1 = true /\ localL (cutAt t).2.1 = true then some ((cutAt t).1,(cutAt t).2.1) else none:=by
 cases hd : t.dropWhile noEnd with
 | nil =>
  have e : cutAt t = (t,[],false):=by unfold cutAt; rw [hd]
  rw [e]
  simp only [cutL]
  rw [if_neg h,if_pos (by rfl),hd]
  simp [localL]
 | cons c b =>
  have e : cutAt t = (t.takeWhile noEnd,b,true):=by unfold cutAt; rw [hd]
  rw [e]
  simp only [cutL]
  rw [if_neg h,if_pos (by rfl),hd]
theorem cutAt_len (t : List UInt8) : (cutAt t).1.length <= t.length /\ (cutAt t).2.1.length <= t.length:=by
 unfold cutAt
 cases hd : t.dropWhile noEnd with
 | nil => simp
 | cons c b => have:=parts_len hd; simp only; omega
set_option maxHeartbeats 1000000 in
theorem cut_any (s : ByteArray) (w : World) (hm : s.size <= 140737488355328) :
 Calls Tryz.prog 111 #[.string s] w fun e w' => e = CutEnd s.data.toList /\ Below w.heap.size w w':=by
 have hl : s.data.toList.length = s.size:=by simp
 by_cases h48 : 48 < s.size
 ·rw [cutEnd_none (cutL_long (by omega))]
  clear hl
  go_enter Tryz.func111,Tryz.ntmps111
  go_wp2
  go_ret3
  exact ⟨rfl,Below.refl _ _⟩
 rcases Bool.eq_false_or_eq_true (Lib.hasPrefix s.data.toList [123]) with hp | hp
 ·-- it begins with a brace
  obtain ⟨t,ht⟩:=prefix_cons hp
  have hE : CutEnd s.data.toList = CutEnd (123 :: t):=by rw [ht]
  rw [hE]
  have hcl:=cutAt_len t
  have hb:=cutL_brace (t:=t) (by rw [ht] at hl; simp at hl; omega)
  have HP:=Lib.hid hp
  have HT:=Lib.hid (show Lib.trimPrefix s.data.toList [123] = t by rw [ht]; simp [Lib.trimPrefix,Lib.hasPrefix,List.isPrefixOf])
  have htl : t.length <= 48:=by rw [ht] at hl; simp at hl; omega
  clear hE ht hp hl
  have HA:=Lib.hid (show CutAtEnd t = .returned (.tuple #[.string ⟨(cutAt t).1.toArray⟩,.string ⟨(cutAt t).2.1.toArray⟩,.bool (cutAt t).2.2]) from rfl)
  generalize (cutAt t).1 = A at *
  generalize (cutAt t).2.1 = B at *
  generalize (cutAt t).2.2 = F at *
  obtain ⟨hA,hB⟩:=hcl
  have HL : Hid ((⟨t.toArray⟩ : ByteArray).data.toList = t):=Lib.hid rfl
  have hsA : (⟨A.toArray⟩ : ByteArray).size <= 48:=by show A.toArray.size <= 48; simp; omega
  have hsB : (⟨B.toArray⟩ : ByteArray).size <= 48:=by show B.toArray.size <= 48; simp; omega
  have hsT : (⟨t.toArray⟩ : ByteArray).size <= 48:=by show t.toArray.size <= 48; simp; omega
  generalize hsa : (⟨A.toArray⟩ : ByteArray) = sa at *
  generalize hsb : (⟨B.toArray⟩ : ByteArray) = sb at *
  generalize hst : (⟨t.toArray⟩ : ByteArray) = st at *
  have ea : sa.data.toList = A:=by rw [<- hsa]
  have eb : sb.data.toList = B:=by rw [<- hsb]
  have HST:=Lib.hid hst
  have hbel:=Below.refl w.heap.size w
  rcases Bool.eq_false_or_eq_true (spaceL A) with hs | hs
  ·have HS:=Lib.hid (show spaceL sa.data.toList = true by rw [ea,hs])
   rcases Bool.eq_false_or_eq_true (localL B) with hf | hf
   ·rw [if_pos ⟨hs,hf⟩] at hb
    rw [cutEnd_some hb,hsa,hsb]
    have HF:=Lib.hid (show localL sb.data.toList = true by rw [eb,hf])
    clear hs hf hb ea eb hsa hsb hst
    go_enter Tryz.func111,Tryz.ntmps111
    go_wp2_with (first
     | (go_at_call 146; refine (Tryz.strings_CutPrefix s _ _).mono ?_; rintro e w' ⟨rfl,rfl⟩; rw [show (⟨#[123]⟩ : ByteArray).data.toList = [123] from rfl,HP.out,HT.out,HST.out])
     | (go_at_call 147; refine (scut_any _ _ (by omega)).mono ?_; rw [HL.out,HA.out]; rintro e w' ⟨rfl,n,rfl⟩; replace hbel:=below_drewN hbel n)
     | (go_at_call 148; refine (space_any _ _ (by omega)).mono ?_; rintro e w' ⟨rfl,hb1⟩; rw [HS.out]; replace hbel:=hbel.trans (hb1.mono hbel.size); clear hb1)
     | (go_at_call 39; refine (local_any _ _ (by omega)).mono ?_; rintro e w' ⟨rfl,rfl⟩; rw [HF.out])
     | (go_at_call 41; refine (clone_any _ _ (by omega)).mono ?_; rintro e w' ⟨rfl,hb1⟩; replace hbel:=hbel.trans (hb1.mono hbel.size); clear hb1))
    go_ret3
    exact ⟨rfl,hbel⟩
   ·rw [if_neg (by rw [hf]; simp)] at hb
    rw [cutEnd_none hb]
    have HF:=Lib.hid (show localL sb.data.toList = false by rw [eb,hf])
    clear hs hf hb ea eb hsa hsb hst
    go_enter Tryz.func111,Tryz.ntmps111
    go_wp2_with (first
     | (go_at_call 146; refine (Tryz.strings_CutPrefix s _ _).mono ?_; rintro e w' ⟨rfl,rfl⟩; rw [show (⟨#[123]⟩ : ByteArray).data.toList = [123] from rfl,HP.out,HT.out,HST.out])
     | (go_at_call 147; refine (scut_any _ _ (by omega)).mono ?_; rw [HL.out,HA.out]; rintro e w' ⟨rfl,n,rfl⟩; replace hbel:=below_drewN hbel n)
     | (go_at_call 148; refine (space_any _ _ (by omega)).mono ?_; rintro e w' ⟨rfl,hb1⟩; rw [HS.out]; replace hbel:=hbel.trans (hb1.mono hbel.size); clear hb1)
     | (go_at_call 39; refine (local_any _ _ (by omega)).mono ?_; rintro e w' ⟨rfl,rfl⟩; rw [HF.out])
     | (go_at_call 41; refine (clone_any _ _ (by omega)).mono ?_; rintro e w' ⟨rfl,hb1⟩; replace hbel:=hbel.trans (hb1.mono hbel.size); clear hb1))
    go_ret3
    exact ⟨rfl,hbel⟩
  ·have HS:=Lib.hid (show spaceL sa.data.toList = false by rw [ea,hs])
   rw [if_neg (by rw [hs]; simp)] at hb
   rw [cutEnd_none hb]
   have HF : True:=trivial
   clear hs hb ea eb hsa hsb hst
   go_enter Tryz.func111,Tryz.ntmps111
   go_wp2_with (first
    | (go_at_call 146; refine (Tryz.strings_CutPrefix s _ _).mono ?_; rintro e w' ⟨rfl,rfl⟩; rw [show (⟨#[123]⟩ : ByteArray).data.toList = [123] from rfl,HP.out,HT.out,HST.out])
    | (go_at_call 147; refine (scut_any _ _ (by omega)).mono ?_; rw [HL.out,HA.out]; rintro e w' ⟨rfl,n,rfl⟩; replace hbel:=below_drewN hbel n)
    | (go_at_call 148; refine (space_any _ _ (by omega)).mono ?_; rintro e w' ⟨rfl,hb1⟩; rw [HS.out]; replace hbel:=hbel.trans (hb1.mono hbel.size); clear hb1))
   go_ret3
   exact ⟨rfl,hbel⟩
 ·have hb:=cutL_plain (l:=s.data.toList) (by omega) hp
  have HP:=Lib.hid hp
  have HT:=Lib.hid (show Lib.trimPrefix s.data.toList [123] = s.data.toList by simp [Lib.trimPrefix,hp])
  have hbel:=Below.refl w.heap.size w
  rcases Bool.eq_false_or_eq_true (localL s.data.toList) with hf | hf
  case' inl => rw [hf,if_pos rfl] at hb
  case' inl => rw [cutEnd_some hb]
  case' inr => rw [hf,if_neg (by simp)] at hb
  case' inr => rw [cutEnd_none hb]
  all_goals have HF:=Lib.hid hf
  all_goals clear hf hb hp hl
  all_goals
   go_enter Tryz.func111,Tryz.ntmps111
   go_wp2_with (first
    | (go_at_call 146; refine (Tryz.strings_CutPrefix s _ _).mono ?_; rintro e w' ⟨rfl,rfl⟩; rw [show (⟨#[123]⟩ : ByteArray).data.toList = [123] from rfl,HP.out,HT.out,str_of])
    | (go_at_call 39; refine (local_any s _ hm).mono ?_; rintro e w' ⟨rfl,rfl⟩; rw [HF.out])
    | (go_at_call 41; refine (clone_any _ _ (by first | omega | (show (0 : Nat) <= _; omega))).mono ?_; rintro e w' ⟨rfl,hb1⟩; replace hbel:=hbel.trans (hb1.mono hbel.size); clear hb1))
   go_ret3
   exact ⟨rfl,hbel⟩
def locAt (l : List UInt8) (k : Nat) : Prop:=(l.take k).all (fun d => laterB (d.toNat : Int)) = true /\ (0 < k -> ∀ c t,l = c :: t -> firstB (c.toNat : Int) = true)
theorem loc_head {s : ByteArray} (h : 0 < s.size) {k : Nat} (hk : 0 < k) (hl : locAt s.data.toList k) : firstB (s[0].toNat : Int) = true:=hl.2 hk _ _ (bytes_cons s h)
theorem loc_end {s : ByteArray} (h0 : 0 < s.size) (h16 : s.size <= 16) (hl : locAt s.data.toList s.size) : localL s.data.toList = true:=by
 have h1:=hl.1
 rw [List.take_of_length_le (by simp)] at h1
 rw [local_eq s h0 h16,loc_head h0 h0 hl,h1]
 rfl
theorem loc_step {s : ByteArray} {k : Nat} (h0 : 0 < s.size) (hlt : k < s.size) (hl : locAt s.data.toList k) (hb : laterB (s[k].toNat : Int) = true) (hz : k = 0 -> firstB (s[0].toNat : Int) = true) : locAt s.data.toList (k + 1):=by
 refine ⟨(all_snoc hlt hl.1).trans hb,fun _ c t hct => ?_⟩
 have e:=bytes_cons s h0
 rw [hct] at e
 injection e with e1 _
 rw [e1]
 by_cases hk : k = 0
 ·exact hz hk
 ·exact loc_head h0 (by omega) hl
theorem loc_bad {s : ByteArray} {k : Nat} (h0 : 0 < s.size) (h16 : s.size <= 16) (hlt : k < s.size) (hb : laterB (s[k].toNat : Int) = false) : localL s.data.toList = false:=by
 rw [local_eq s h0 h16,all_break (p:=fun d => laterB (d.toNat : Int)) hlt hb,Bool.and_false]
theorem loc_bad0 {s : ByteArray} (h0 : 0 < s.size) (h16 : s.size <= 16) (hb : firstB (s[0].toNat : Int) = false) : localL s.data.toList = false:=by
 rw [local_eq s h0 h16,hb,Bool.false_and]
set_option maxHeartbeats 2000000 in
theorem rlocal_any (s : ByteArray) (w : World) (hm : s.size <= 140737488355328) :
 Calls Tryz.prog 157 #[.string s] w fun e w' => e = .returned (.bool (localL s.data.toList)) /\ w = w':=by
 by_cases h0 : s.size = 0
 ·rw [local_long s (.inl h0)]
  have hs : s = ⟨#[]⟩:=ByteArray.ext (Array.eq_empty_of_size_eq_zero h0)
  subst hs
  go_enter Tryz.func157,Tryz.ntmps157
  go_wp2
  go_ret
  exact ⟨rfl,rfl⟩
 by_cases h16 : 16 < s.size
 ·rw [local_long s (.inr h16)]
  go_enter Tryz.func157,Tryz.ntmps157
  go_wp2
  go_ret
  exact ⟨rfl,rfl⟩
 have hp : 0 < s.size:=by omega
 have h16' : s.size <= 16:=by omega
 go_enter Tryz.func157,Tryz.ntmps157
 go_wp2
 go_loop [3] (fun i => ∃ k : Nat,k <= s.size /\ i = .int .i64 k /\ Hid (locAt s.data.toList k)) (fun i => s.size - (intOf i).toNat)
 case atStart => exact ⟨0,Nat.zero_le _,rfl,Lib.hid ⟨rfl,fun h => absurd h (by decide)⟩⟩
 case round =>
  obtain ⟨k,hk,rfl,HK⟩:=hrel
  by_cases hlt : k < s.size
  ·have HB:=fun h => Lib.hid (loc_bad hp h16' hlt h)
   have HB0:=fun h => Lib.hid (loc_bad0 hp h16' h)
   have HS:=fun h1 h2 => Lib.hid (loc_step hp hlt HK.out h1 h2)
   clear HK
   go_wp2
   all_goals clear hm h0 h16 h16' hk
   all_goals first
    | (go_ret; refine ⟨ret_bool (Eq.symm ?_),rfl⟩)
    | (go_round
       case rel =>
        refine ⟨k + 1,by omega,by go_num,HS ?_ ?_⟩
        ·clear HB HB0 HS
         simp only [laterB]
         rw [decide_eq_true_iff]
         simp at *
         try omega
        ·rintro rfl
         clear HB HB0 HS
         simp only [firstB]
         rw [decide_eq_true_iff]
         simp at *
         try omega
       case measure => simp [intOf]; omega)
   all_goals
    rcases Bool.eq_false_or_eq_true (laterB (s[k].toNat : Int)) with hL | hL
    ·have hk0 : k = 0:=by
      rcases Nat.eq_zero_or_pos k with h | h
      ·exact h
      ·exfalso
       clear HB HB0 HS
       unfold laterB at hL
       simp [h] at *
       try omega
     subst hk0
     refine (HB0 ?_).out
     clear HB HB0 HS hL
     simp only [firstB]
     rw [decide_eq_false_iff_not]
     simp at *
     try omega
    ·exact (HB hL).out
  ·have hkn : k = s.size:=by omega
   subst hkn
   have HE:=Lib.hid (loc_end hp h16' HK.out)
   go_wp2
   go_ret
   rw [HE.out]
   exact ⟨rfl,rfl⟩
theorem badB_false {b : Int} (h : 33 <= b) (h1 : b ≠ 123) (h2 : b ≠ 125) (h3 : b ≠ 34) (h4 : b ≠ 60) (h5 : b ≠ 62) (h6 : b ≠ 38) (h7 : b ≠ 92) : badB b = false:=by
 unfold badB
 rw [decide_eq_false_iff_not]
 omega
set_option maxHeartbeats 1000000 in
theorem rspace_any (s : ByteArray) (w : World) (hm : s.size <= 1099511627776) :
 Calls Tryz.prog 171 #[.string s] w fun e w' => e = .returned (.bool (spaceL s.data.toList)) /\ Below w.heap.size w w':=by
 have hl : s.data.toList.length = s.size:=by simp
 rcases Bool.eq_false_or_eq_true (runesL s.data.toList).isSome with hv | hv
 case inr =>
  rw [show spaceL s.data.toList = false by unfold spaceL; rw [hv]; rfl]
  have HV:=Lib.hid hv
  clear hv hl
  go_enter Tryz.func171,Tryz.ntmps171
  go_wp2_with (first
   | (go_at_call 57; refine (valid_any s _ hm).mono ?_; rintro e w1 ⟨rfl,hb1⟩; rw [HV.out]))
  go_ret
  exact ⟨rfl,hb1⟩
 case inl =>
  have HV:=Lib.hid hv
  by_cases h0 : s.size = 0 \/ 48 < s.size
  ·rw [space_long s h0]
   clear hv hl
   rcases h0 with h0 | h0
   ·have hs : s = ⟨#[]⟩:=ByteArray.ext (Array.eq_empty_of_size_eq_zero h0)
    subst hs
    clear h0
    go_enter Tryz.func171,Tryz.ntmps171
    go_wp2_with (first
     | (go_at_call 57; refine (valid_any _ _ hm).mono ?_; rintro e w1 ⟨rfl,hb1⟩; rw [HV.out]))
    go_ret
    exact ⟨rfl,hb1⟩
   ·go_enter Tryz.func171,Tryz.ntmps171
    go_wp2_with (first
     | (go_at_call 57; refine (valid_any s _ hm).mono ?_; rintro e w1 ⟨rfl,hb1⟩; rw [HV.out]))
    go_ret
    exact ⟨rfl,hb1⟩
  have h1 : 1 <= s.size:=by omega
  have h48 : s.size <= 48:=by omega
  have hR:=space_eq s (by omega) (by omega)
  rw [hv,Bool.true_and] at hR
  generalize hgl : spaceL s.data.toList = R at *
  have HR:=Lib.hid hR
  clear hR hgl h0 hv hl
  go_enter Tryz.func171,Tryz.ntmps171
  go_wp2_with (first
   | (go_at_call 57; refine (valid_any s _ hm).mono ?_; rintro e w1 ⟨rfl,hb1⟩; rw [HV.out]))
  go_loop [4] (fun i => ∃ k : Nat,k <= s.size /\ i = .int .i64 k /\ Hid ((s.data.toList.take k).all (fun d => !badB (d.toNat : Int)) = true)) (fun i => s.size - (intOf i).toNat)
  case atStart => exact ⟨0,Nat.zero_le _,rfl,Lib.hid rfl⟩
  case round =>
   obtain ⟨k,hk,rfl,HK⟩:=hrel
   by_cases hlt : k < s.size
   ·have HX:=fun hb => Lib.hid (all_break (p:=fun d => !badB (d.toNat : Int)) hlt hb)
    have HY:=Lib.hid (all_snoc (p:=fun d => !badB (d.toNat : Int)) hlt HK.out)
    clear HK
    go_wp2
    all_goals first
     | (go_ret
        refine ⟨ret_bool ?_,hb1⟩
        rw [HR.out,(HX ?_).out]
        clear HX HY HR HV
        simp [badB] at *
        try omega)
     | (go_round
        case rel =>
         refine ⟨k + 1,by omega,by go_num,Lib.hid (HY.out.trans ?_)⟩
         clear HX HY HR HV
         rw [badB_false]
         all_goals (simp at *; try omega)
        case measure => simp [intOf]; omega)
   ·go_wp2
    go_ret
    refine ⟨ret_bool ?_,hb1⟩
    have hK:=HK.out
    rw [List.take_of_length_le (by simp; omega)] at hK
    rw [HR.out,hK]
theorem dotidx_any (s : ByteArray) (w : World) :
 Calls Tryz.prog 107 #[.string s,.string ⟨#[46]⟩] w fun e w' => e = .returned (.int .i64 (Lib.indexByte s.data.toList 46)) /\ w = w':=by
 cases hE : ([46] == s.toList)
 ·have hE2 : ¬ ([46] = s.toList):=by simpa using hE
  go_enter Tryz.func107,Tryz.ntmps107
  go_wp2_with (go_at_call 142; refine (Tryz.stringslite_IndexByte s _ _).mono ?_; rintro e w' ⟨rfl,rfl⟩)
  go_ret
  exact ⟨rfl,rfl⟩
 ·have hE2 : [46] = s.toList:=by simpa using hE
  have hI:=Lib.hid (show Lib.indexByte s.data.toList 46 = 0 by rw [<- Lib.toList_data,<- hE2]; rfl)
  clear hE2
  go_enter Tryz.func107,Tryz.ntmps107
  go_wp2_with (go_at_call 142; refine (Tryz.stringslite_IndexByte s _ _).mono ?_; rintro e w' ⟨rfl,rfl⟩)
  go_ret
  exact ⟨ret_int hI.out.symm,rfl⟩
theorem dots_any (s : ByteArray) (w : World) :
 Calls Tryz.prog 40 #[.string s,.string ⟨#[46]⟩] w fun e w' => e = .returned (.bool (decide ((46 : UInt8) ∈ s.data.toList))) /\ w = w':=by
 have hI : decide ((46 : UInt8) ∈ s.data.toList) = decide (0 <= Lib.indexByte s.data.toList 46):=by
  rw [<- Lib.contains_iff_indexByte]; simp
 rw [hI]
 have hX : Calls Tryz.prog 70 #[.string s,.string ⟨#[46]⟩] w fun e w' => e = .returned (.int .i64 (Lib.indexByte s.data.toList 46)) /\ w = w':=by
  go_enter Tryz.func70,Tryz.ntmps70
  go_wp2_with (go_at_call 107; refine (dotidx_any s _).mono ?_; rintro e w' ⟨rfl,rfl⟩)
  go_ret
  exact ⟨rfl,rfl⟩
 generalize Lib.indexByte s.data.toList 46 = r at *
 clear hI
 go_enter Tryz.func40,Tryz.ntmps40
 go_wp2_with (go_at_call 70; refine hX.mono ?_; rintro e w' ⟨rfl,rfl⟩)
 go_ret
 exact ⟨rfl,rfl⟩
def WordEnd (L : List UInt8) : Ending:=.returned (.tuple #[.string ⟨(wordL L).toArray⟩,.int .i64 (if localL L = true /\ (46 : UInt8) ∉ L then 0 else Qt.prErr L)])
theorem word_loc {L : List UInt8} (h1 : localL L = true) (h2 : (46 : UInt8) ∉ L) : wordL L = L:=by unfold wordL; rw [if_pos ⟨h1,h2⟩]
theorem word_quo {L : List UInt8} (h : ¬ (localL L = true /\ (46 : UInt8) ∉ L)) : wordL L = Qt.prText L:=by unfold wordL; rw [if_neg h]
theorem word_any (s : ByteArray) (w : World) (hm : s.size <= 140737488355328) :
 Calls Tryz.prog 25 #[.string s] w fun e w' => e = WordEnd s.data.toList /\ Below w.heap.size w w':=by
 have hL:=local_any s w hm
 have hP:=fun w' => Qt.print_any s w' hm
 unfold WordEnd
 cases h1 : localL s.data.toList with
 | false =>
  rw [h1] at hL
  rw [word_quo (by rw [h1]; simp),if_neg (by simp)]
  clear h1
  unfold Qt.PrintEnd at hP
  go_enter Tryz.func25,Tryz.ntmps25
  go_wp2_with (first
   | (go_at_call 39; refine hL.mono ?_; rintro e w' ⟨rfl,rfl⟩)
   | (go_at_call 42; refine (hP _).mono ?_; rintro e w' ⟨rfl,hb⟩))
  go_ret2
  exact ⟨rfl,hb⟩
 | true =>
  rw [h1] at hL
  have hD:=dots_any s
  by_cases h2 : (46 : UInt8) ∈ s.data.toList
  ·rw [word_quo (by simp [h2]),if_neg (by simp [h2])]
   rw [decide_eq_true h2] at hD
   clear h1 h2
   unfold Qt.PrintEnd at hP
   go_enter Tryz.func25,Tryz.ntmps25
   go_wp2_with (first
    | (go_at_call 39; refine hL.mono ?_; rintro e w' ⟨rfl,rfl⟩)
    | (go_at_call 40; refine (hD _).mono ?_; rintro e w' ⟨rfl,rfl⟩)
    | (go_at_call 42; refine (hP _).mono ?_; rintro e w' ⟨rfl,hb⟩))
   go_ret2
   exact ⟨rfl,hb⟩
  ·rw [word_loc h1 h2,if_pos ⟨rfl,h2⟩]
   rw [decide_eq_false h2] at hD
   clear h1 h2 hP
   have hC:=fun w' => clone_any s w' hm
   go_enter Tryz.func25,Tryz.ntmps25
   go_wp2_with (first
    | (go_at_call 39; refine hL.mono ?_; rintro e w' ⟨rfl,rfl⟩)
    | (go_at_call 40; refine (hD _).mono ?_; rintro e w' ⟨rfl,rfl⟩)
    | (go_at_call 41; refine (hC _).mono ?_; rintro e w' ⟨rfl,hb⟩))
   go_ret2
   exact ⟨rfl,hb⟩
theorem word1_any (s : ByteArray) (w : World) (hm : s.size <= 140737488355328) :
 Calls Tryz.prog 67 #[.string s] w fun e w' => e = .returned (.string ⟨(wordL s.data.toList).toArray⟩) /\ Below w.heap.size w w':=by
 have hW:=word_any s w hm
 unfold WordEnd at hW
 generalize (if localL s.data.toList = true /\ (46 : UInt8) ∉ s.data.toList then (0 : Int) else Qt.prErr s.data.toList) = E at hW
 go_enter Tryz.func67,Tryz.ntmps67
 go_wp2_with (go_at_call 25; refine hW.mono ?_; rintro e w' ⟨rfl,hb⟩)
 go_ret
 exact ⟨rfl,hb⟩
open Go Go.RowKit
variable [Fo]
section
variable {P : Program} {ops : Array Oper} {Q : Exit -> Act -> World -> Prop} {md : Region.Mode}
def wpAnyG (P : Program) (md : Region.Mode) (ops : Array Oper) (Q : Exit -> Act -> World -> Prop) (Es : List Nat) (S : World -> Prop) : Nat -> Array Bool -> Act -> World -> Prop
 | 0,listed,a,w => Region.ready md ops listed = [] /\ Q .normal a w
 | fuel + 1,listed,a,w =>
  (Region.ready md ops listed = [] -> Q .normal a w) /\
  ∀ i ∈ Region.ready md ops listed,wpOp P ops Q i (fun a' w' => (i ∉ Es -> S w') /\ wpAnyG P md ops Q Es S fuel (listed.setIfInBounds i true) a' w') a w
variable {S : World -> Prop} {Es : List Nat}
theorem any_of_g : ∀ (fuel : Nat) (listed : Array Bool) (a : Act) (w : World),wpAnyG P md ops Q Es S fuel listed a w -> wpAny P md ops Q fuel listed a w
 | 0,_,_,_,h => h
 | fuel + 1,_,_,_,h => ⟨h.1,fun i hi => wpOp_mono (fun a' w' h' => any_of_g fuel _ a' w' h'.2) (h.2 i hi)⟩
def waitsFor (md : Region.Mode) (ops : Array Oper) (E i : Nat) : Bool:=match ops[E]? with | some o => o.after.any fun e => Region.binds md e && decide (e.on = i) | none => true
theorem g_first {i : Nat} {oi : Oper} {v : Value} (hi : ops[i]? = some oi) (hsel : ∀ (j : Nat) (o : Oper) cs b,ops[j]? = some o -> o.op ≠ .select cs b) (hE : (Es.all fun E => waitsFor md ops E i) = true)
 (hQ : ∀ c a w,Q (.panic c) (a.put oi.dst v) w -> Q (.panic c) a w) :
 ∀ (fuel : Nat) (listed : Array Bool) (a : Act) (w : World),
  (∀ j oj,ops[j]? = some oj -> j ≠ i -> listed.getD j true = false -> (∀ e ∈ oj.after,Region.binds md e = true -> e.on ≠ i) -> oi.apart ops oj = true) ->
  i ∈ Region.ready md ops listed -> YieldsIf P ops S oi v a -> S w ->
  wpAnyG P md ops Q Es S fuel (listed.setIfInBounds i true) (a.put oi.dst v) w -> wpAnyG P md ops Q Es S (fuel + 1) listed a w:=by
 intro fuel
 induction fuel with
 | zero =>
  intro listed a w _ hr hy hS H
  refine ⟨fun h => (by rw [h] at hr; cases hr),fun j hj => ?_⟩
  by_cases hji : j = i
  ·subst hji; exact hy.wpOp hi hS ⟨fun _ => hS,H⟩
  ·have:=ready_mono hj hji
   rw [H.1] at this
   cases this
 | succ fuel ih =>
  intro listed a w hfree hr hy hS H
  refine ⟨fun h => (by rw [h] at hr; cases hr),fun j hj => ?_⟩
  by_cases hji : j = i
  ·subst hji; exact hy.wpOp hi hS ⟨fun _ => hS,H⟩
  ·have h1:=H.2 j (ready_mono hj hji)
   obtain ⟨hjun,oj,hoj,hall⟩:=mem_ready.1 hj
   have hnot : ∀ e ∈ oj.after,Region.binds md e = true -> e.on ≠ i:=fun e he hb heq => by
    have h1:=hall e he hb
    have h0:=(mem_ready.1 hr).1
    rw [heq] at h1
    rcases Nat.lt_or_ge i listed.size with h' | h'
    ·simp [h'] at h0 h1; rw [h0] at h1; cases h1
    ·simp [Array.getElem?_eq_none h'] at h1
   have hjE : j ∉ Es:=by
    intro hm
    have hE:=List.all_eq_true.1 hE j hm
    unfold waitsFor at hE
    rw [hoj] at hE
    simp only [Array.any_eq_true,Bool.and_eq_true,decide_eq_true_iff] at hE
    obtain ⟨q,hq,hb,he⟩:=hE
    exact hnot _ (Array.getElem_mem hq) hb he
   have h2:=wpOp_putIf hoj (hfree j oj hoj hji hjun hnot) (fun cs b => hsel i oi cs b hi) (fun cs b => hsel j oj cs b hoj) hQ hy h1
   have hfree' : ∀ k ok,ops[k]? = some ok -> k ≠ i -> (listed.setIfInBounds j true).getD k true = false ->
    (∀ e ∈ ok.after,Region.binds md e = true -> e.on ≠ i) -> oi.apart ops ok = true:=fun k ok hk hki hun hno => by
    refine hfree k ok hk hki ?_ hno
    by_cases hjk : j = k
    ·subst hjk; exact hjun
    ·rw [getD_set_ne true hjk] at hun; exact hun
   refine wpOp_mono (fun a' w' h3 => ⟨fun _ => h3.2.1 hjE,ih (listed.setIfInBounds j true) a' w' hfree' (ready_mono hr (Ne.symm hji)) h3.1 (h3.2.1 hjE) ?_⟩) h2
   rw [Array.setIfInBounds_comm _ _ hji]
   exact h3.2.2
theorem g_take {i : Nat} {oi : Oper} {v : Value} {fuel : Nat} {listed : Array Bool} {a : Act} {w : World} (hi : ops[i]? = some oi)
 (hs : Region.noSelect ops = true) (hE : (Es.all fun E => waitsFor md ops E i) = true) (hf : Region.free md ops listed i = true) (hr : (Region.ready md ops listed).contains i = true)
 (hQ : ∀ c a w,Q (.panic c) (a.put oi.dst v) w -> Q (.panic c) a w) (hy : YieldsIf P ops S oi v a) (hS : S w)
 (h : wpAnyG P md ops Q Es S fuel (listed.setIfInBounds i true) (a.put oi.dst v) w) : wpAnyG P md ops Q Es S (fuel + 1) listed a w :=
 g_first hi (Region.noSelect_spec hs) hE hQ fuel listed a w (Region.free_spec hi hf) (by simpa using hr) hy hS h
theorem g_done {listed : Array Bool} {a : Act} {w : World} (hr : Region.ready md ops listed = []) (h : Q .normal a w) : ∀ fuel,wpAnyG P md ops Q Es S fuel listed a w
 | 0 => ⟨hr,h⟩
 | _ + 1 => ⟨fun _ => h,by rw [hr]; simp⟩
theorem g_one {i : Nat} {o : Oper} {fuel : Nat} {listed : Array Bool} {a : Act} {w : World} (hr : Region.ready md ops listed = [i]) (ho : ops[i]? = some o)
 (h : ∀ K' : Act -> World -> Prop,Shut (∀ a w,(i ∉ Es -> S w) -> ((i ∉ Es -> S w) -> wpAnyG P md ops Q Es S fuel (listed.setIfInBounds i true) a w) -> K' a w) -> if Region.wanted o (yielded ops a.tmps) = true then Oper.wp P o a w K' Q else K' (a.put o.dst undef) w) :
 wpAnyG P md ops Q Es S (fuel + 1) listed a w:=by
 refine ⟨fun h0 => (by rw [hr] at h0; cases h0),fun j hj => ?_⟩
 rw [hr] at hj
 obtain rfl : j = i:=by simpa using hj
 exact wpOp_step ho (fun K' hK => h K' (fun a w hS hW => hK a w ⟨hS,hW hS⟩))
theorem region_g {id : Nat} (Es : List Nat) {S : World -> Prop} {a : Act} {w : World} (hm : P.follows .mixedOrders = true) (hS : S w.drew)
 (h : S w.drew -> wpAnyG P .any ops (fun e a w => e = .normal /\ Q .normal a w) Es S ops.size (Array.replicate ops.size false) a w.drew) : (Code.region id ops true).wp P Q a w :=
 wp_mono (wp_region_any hm (any_of_g _ _ _ _ (h hS))) fun e a w h => by obtain ⟨rfl,h⟩:=h; exact h
end
end Go.Proofs.YtbnppjmmlfncmaaGreatDoor
namespace Go.Proofs.YtbnppjmmlfncmaaGreatDoor
open Go.RowKit
variable [Fo]
structure OStep (w : World) (v : Value) (w' : World) (v' : Value) : Prop where
 grown : w.grownBy w' v.ownBlock
 own : v'.ownBlock = v.ownBlock \/ ∃ g,v'.ownBlock = some g /\ w.heap.size <= g
section
variable {w w1 w2 : World} {v v1 v2 : Value}
theorem OStep.refl (w : World) (v : Value) : OStep w v w v:=⟨World.grownBy.refl w _,.inl rfl⟩
theorem OStep.trans (h : OStep w v w1 v1) (k : OStep w1 v1 w2 v2) : OStep w v w2 v2:=by
 refine ⟨⟨k.grown.os.trans h.grown.os,k.grown.tape.trans h.grown.tape,k.grown.output.trans h.grown.output,Nat.le_trans h.grown.size k.grown.size,fun i hi hne => ?_⟩,?_⟩
 ·refine (k.grown.block i (Nat.lt_of_lt_of_le hi h.grown.size) fun e => ?_).trans (h.grown.block i hi hne)
  rcases h.own with h1 | ⟨g,h1,h2⟩
  ·exact hne (e.trans h1)
  ·rw [h1] at e; injection e with e; omega
 ·rcases k.own with h1 | ⟨g,h1,h2⟩
  ·rcases h.own with h3 | ⟨g,h3,h4⟩
   ·exact .inl (h1.trans h3)
   ·exact .inr ⟨g,h1.trans h3,h4⟩
  ·exact .inr ⟨g,h1,Nat.le_trans h.grown.size h2⟩
theorem OStep.of_below (h : Below w.heap.size w w1) (v : Value) : OStep w v w1 v:=⟨only_of_below h _,.inl rfl⟩
theorem OStep.then_below (h : OStep w v w1 v1) (k : Below w1.heap.size w1 w2) : OStep w v w2 v1:=h.trans (OStep.of_below k v1)
theorem OStep.alloc (h : OStep w v w1 v1) (o : Obj) : OStep w v (w1.alloc o) v1:=h.then_below ((Below.refl _ _).alloc (Nat.le_refl _) _)
theorem OStep.size (h : OStep w v w1 v1) : w.heap.size <= w1.heap.size:=h.grown.size
theorem OStep.blk (h : OStep w v w1 v1) {g : Nat} {t : TypeId} {cs : Array Value} (hb : Blk w g t cs) (hg : some g ≠ v.ownBlock) : Blk w1 g t cs /\ some g ≠ v1.ownBlock:=by
 refine ⟨hb.grown h.grown hg,fun e => ?_⟩
 rcases h.own with h1 | ⟨g',h1,h2⟩
 ·exact hg (e.trans h1)
 ·rw [h1] at e; injection e with e; have:=hb.lt; omega
theorem OStep.heap (h : OStep w v w1 v1) {g : Nat} (hl : g < w.heap.size) (hg : some g ≠ v.ownBlock) : w1.heap[g]? = w.heap[g]?:=h.grown.block g hl hg
theorem OStep.set (h : OStep w v w1 v1) {p : Addr} (hp : w.heap.size <= p.block) (u : Value) : OStep w v (w1.setCell p u) v1 :=
 ⟨⟨h.grown.os,h.grown.tape,h.grown.output,by simpa [World.setCell] using h.grown.size,fun k hk hne => (Below.heap_setCell w1 p u k (by omega)).trans (h.grown.block k hk hne)⟩,h.own⟩
theorem OStep.drew (h : OStep w v w1 v1) : OStep w v w1.drew v1:=⟨only_drew h.grown,h.own⟩
theorem OStep.none_below (h : OStep w (.slice none 0 0) w1 v1) : Below w.heap.size w w1 :=
 ⟨h.grown.os,h.grown.tape,h.grown.output,h.grown.size,fun k hk => h.grown.block k hk (by simp [Value.ownBlock])⟩
theorem OStep.below {base : Nat} {e : TypeId} {size n : Nat} {xs : List Value} (h : OStep w v w1 v1) (hr : w.ownsRow base e size v n xs) (hb : base <= w.heap.size) : Below base w w1 :=
 ⟨h.grown.os,h.grown.tape,h.grown.output,h.grown.size,fun k hk => h.grown.block k (by omega) fun hc => by have:=(World.ownsRow.lt hr k hc.symm).1; omega⟩
end
section
variable {P : Program} {w : World}
theorem wp_appO {ops : Array Oper} {rest : List Oper} {o : Oper} {a : Act} {Q : Exit -> Act -> World -> Prop} (hgd : o.guard = none) (s x : Operand) (t : TypeId)
 (ho : o.op = .call { callee:=.builtin .append,args:=#[s,x],argTypes:=#[t,t] })
 (base : Nat) (e : TypeId) (z : Value) (size bytes : Nat) (ht : P.underlying t = some (.slice e)) (hinfo : (P.info? e).map (fun i => (i.zero,i.size,i.bytes)) = some (some z,size,bytes)) (hz1 : z.cells.size = size) (hs0 : 0 < size)
 (v : Value) (n : Nat) (xs news : List Value) (hs : a.eval s = v) (hown : w.ownsRow base e size v n xs) (hu : ∀ u ∈ news,u.oneCell' = true)
 (A : Addr) (m c : Nat) (hm : news.length = m * size) (hx : a.eval x = .slice (some A) m c) (hc : ∀ j u,news[j]? = some u -> w.cell? (A.add j) = some u)
 (h63 : n + m <= maxLen) (hbytes : (n + m) * bytes <= 140737488355328) (hbase : base <= w.heap.size)
 (h : ∀ v' w',w'.ownsRow base e size v' (n + m) (xs ++ news) -> OStep w v w' v' -> wpList P ops Q rest (a.put o.dst v') w') :
 wpList P ops Q (o :: rest) a w:=by
 obtain ⟨i,hi,hz,hsize,hby⟩:=info_parts hinfo
 refine wpList_plain hgd fun K hK => ?_
 obtain ⟨v',w',hrun,h2,h3,_,h5⟩:=run_append_own_at (P:=P) w base t o.type e i z size bytes ht hi hz hsize hby hz1 hs0 v n xs hown A m c news hm hc hu h63 hbytes hbase
 unfold Oper.wp execOp
 simp only [ho,resolve,invoke,builtin,Sem.run_bind,Sem.run_pure,Result.andThen_ok,List.map_toArray,List.map_cons,List.map_nil,hs,hx,hrun]
 refine hK _ _ (h v' w' h2 ⟨h3,?_⟩)
 rcases h5 with h5 | h5
 ·exact .inl h5
 ·exact .inr ⟨_,h5,by first | exact Nat.le_refl _ | omega⟩
end
end Go.Proofs.YtbnppjmmlfncmaaGreatDoor
