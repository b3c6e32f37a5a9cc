/-
  The reference's One where the character has three bytes by its first.
  The reference's One where the character has four bytes by its first.
  The reference's One and Runes, whole; 'same' of two lists.
  The reference's Valid (hexaplaref01): whether a text has characters.
  The reference's Print (hexaplaref03): the same text, or refused.
  names: which bytes a name may have; Local, Space of the program.
  names: Space, Cut and Join of the program.
  names: Cut and Join of the program.
-/
import Derived.Test.YtbnppjmmlfncmaaGreatDoorIrA07
import Derived.Test.YtbnppjmmlfncmaaGreatDoorIrA04
import Derived.Test.YtbnppjmmlfncmaaGreatDoorIrA06
import Derived.Lib.Strings
import Derived.BigQuiet
import Derived.Deep.QuietTactic
import Derived.Test.YtbnppjmmlfncmaaGreatDoorIrA02
import Derived.Test.YtbnppjmmlfncmaaGreatDoorShelf
set_option maxRecDepth 100000
set_option linter.unusedSectionVars false
namespace Go.Proofs.YtbnppjmmlfncmaaGreatDoor
open Go.RowKit
set_option maxHeartbeats 1000000 in
theorem one_3b (s : ByteArray) (w : World) (hm : s.size <= 140737488355328) (h : 0 < s.size) (a : 224 <= (s[0].toNat : Int)) (b : (s[0].toNat : Int) < 240) (hs : 3 <= s.size)
 (hone : oneL s.data.toList = oneFin 3 (tails ((s[0].toNat : Int) - 224) ((s.data.toList.drop 1).take 2))) :
 Calls Tryz.prog 138 #[.string s] w fun e w' => OneEnd s.data.toList e /\ w = w':=by
 have hb : ((s.size : Int) == 0) = false:=beq_eq_false_iff_ne.2 (by omega)
 have HO:=Lib.hid hone
 clear hone
 go_enter Tryz.func138,Tryz.ntmps138
 go_wp2
 generalize hV : (s[0].toNat : Int) - 224 = V at *
 have hV0 : 0 <= V /\ V < 64:=by omega
 have HV:=Lib.hid hV
 clear hV
 go_loop [6,7] (fun u i => ∃ (k : Nat) (x : Int),1 <= k /\ k <= 3 /\ i = .int .i64 k /\ u = .int .i64 x /\ 0 <= x /\ x < ((64 ^ k : Nat) : Int) /\ Hid (tails V ((s.data.toList.drop 1).take (k - 1)) = some x)) (fun _ i => 3 - (intOf i).toNat)
 case atStart => exact ⟨1,V,by omega,by omega,rfl,rfl,hV0.1,hV0.2,Lib.hid rfl⟩
 case round =>
  obtain ⟨k,x,hk1,hk,rfl,rfl,hx0,hx1,HT⟩:=hrel
  by_cases hlt : k < 3
  ·have hbt:=bytes_take s k hk1 (by omega)
   have hsn:=tails_snoc V ((s.data.toList.drop 1).take (k - 1)) s[k]
   rw [<- hbt,HT.out] at hsn
   simp only [Option.bind_some] at hsn
   have HS:=Lib.hid hsn
   clear hsn hbt
   have hpow : ((64 ^ (k + 1) : Nat) : Int) = 64 * ((64 ^ k : Nat) : Int):=by rw [Nat.pow_succ]; omega
   have hpw:=Lib.hid hpow
   clear hpow
   have hp4 : ((64 ^ k : Nat) : Int) <= 262144:=by
    have : 64 ^ k <= 64 ^ 3:=Nat.pow_le_pow_right (by decide) (by omega)
    omega
   have hle:=byte_le s[k]
   by_cases hd : (s[k].toNat : Int) < 128
   ·go_wp2
    go_ret2
    have hnone : tails V ((s.data.toList.drop 1).take 2) = none:=tails_none_take _ _ k _ (by omega) (by rw [HS.out,if_pos (.inl hd)])
    refine ⟨oneEnd_of ?_,rfl⟩
    rw [HO.out,hnone]; rfl
   by_cases hd2 : (s[k].toNat : Int) < 192
   ·have hx2 : x <= 262143:=by omega
    go_wp2
    go_round
    case rel => exact ⟨k + 1,64 * x + (s[k].toNat : Int) - 128,by omega,by omega,by go_num,by first | rfl | go_num,by omega,by rw [hpw.out]; omega,Lib.hid (by rw [Nat.add_sub_cancel,HS.out,if_neg (by omega)])⟩
    case measure => simp [intOf]; omega
   ·have hd3 : 192 <= (s[k].toNat : Int):=by omega
    go_wp2
    go_ret2
    have hnone : tails V ((s.data.toList.drop 1).take 2) = none:=tails_none_take _ _ k _ (by omega) (by rw [HS.out,if_pos (.inr hd3)])
    refine ⟨oneEnd_of ?_,rfl⟩
    rw [HO.out,hnone]; rfl
  ·have hkN : k = 3:=by omega
   subst hkN
   have hfin : oneL s.data.toList = oneFin 3 (some x):=by rw [HO.out]; exact congrArg _ HT.out
   clear HO HT
   have HF:=Lib.hid hfin
   clear hfin
   by_cases hmy : mayB x = true
   ·have HM:=Lib.hid hmy
    clear hmy
    by_cases hlg : longI x = 3
    ·have hne : (longI x != 3) = false:=by simp [hlg]
     have HL:=Lib.hid hlg
     clear hlg
     go_wp2_with (first
      | (go_at_call 158; refine (may_any _ _).mono ?_; rintro e w' ⟨rfl,rfl⟩; rw [HM.out])
      | (go_at_call 159; refine (long_any _ _).mono ?_; rintro e w' ⟨rfl,rfl⟩))
     go_ret2
     exact ⟨oneEnd_of (by rw [HF.out]; exact if_pos ⟨HM.out,HL.out⟩),rfl⟩
    ·have hne : (longI x != 3) = true:=bne_iff_ne.2 hlg
     go_wp2_with (first
      | (go_at_call 158; refine (may_any _ _).mono ?_; rintro e w' ⟨rfl,rfl⟩; rw [HM.out])
      | (go_at_call 159; refine (long_any _ _).mono ?_; rintro e w' ⟨rfl,rfl⟩))
     go_ret2
     exact ⟨oneEnd_of (by rw [HF.out]; exact if_neg (fun h => hlg h.2)),rfl⟩
   ·have hmf : mayB x = false:=by simpa using hmy
    have HM:=Lib.hid hmf
    clear hmf
    have HM2:=Lib.hid hmy
    clear hmy
    go_wp2_with (first
     | (go_at_call 158; refine (may_any _ _).mono ?_; rintro e w' ⟨rfl,rfl⟩; rw [HM.out]))
    go_ret2
    exact ⟨oneEnd_of (by rw [HF.out]; exact if_neg (fun h => HM2.out h.1)),rfl⟩
set_option maxHeartbeats 1000000 in
theorem one_4b (s : ByteArray) (w : World) (hm : s.size <= 140737488355328) (h : 0 < s.size) (a : 240 <= (s[0].toNat : Int)) (b : (s[0].toNat : Int) < 248) (hs : 4 <= s.size)
 (hone : oneL s.data.toList = oneFin 4 (tails ((s[0].toNat : Int) - 240) ((s.data.toList.drop 1).take 3))) :
 Calls Tryz.prog 138 #[.string s] w fun e w' => OneEnd s.data.toList e /\ w = w':=by
 have hb : ((s.size : Int) == 0) = false:=beq_eq_false_iff_ne.2 (by omega)
 have HO:=Lib.hid hone
 clear hone
 go_enter Tryz.func138,Tryz.ntmps138
 go_wp2
 generalize hV : (s[0].toNat : Int) - 240 = V at *
 have hV0 : 0 <= V /\ V < 64:=by omega
 have HV:=Lib.hid hV
 clear hV
 go_loop [6,7] (fun u i => ∃ (k : Nat) (x : Int),1 <= k /\ k <= 4 /\ i = .int .i64 k /\ u = .int .i64 x /\ 0 <= x /\ x < ((64 ^ k : Nat) : Int) /\ Hid (tails V ((s.data.toList.drop 1).take (k - 1)) = some x)) (fun _ i => 4 - (intOf i).toNat)
 case atStart => exact ⟨1,V,by omega,by omega,rfl,rfl,hV0.1,hV0.2,Lib.hid rfl⟩
 case round =>
  obtain ⟨k,x,hk1,hk,rfl,rfl,hx0,hx1,HT⟩:=hrel
  by_cases hlt : k < 4
  ·have hbt:=bytes_take s k hk1 (by omega)
   have hsn:=tails_snoc V ((s.data.toList.drop 1).take (k - 1)) s[k]
   rw [<- hbt,HT.out] at hsn
   simp only [Option.bind_some] at hsn
   have HS:=Lib.hid hsn
   clear hsn hbt
   have hpow : ((64 ^ (k + 1) : Nat) : Int) = 64 * ((64 ^ k : Nat) : Int):=by rw [Nat.pow_succ]; omega
   have hpw:=Lib.hid hpow
   clear hpow
   have hp4 : ((64 ^ k : Nat) : Int) <= 262144:=by
    have : 64 ^ k <= 64 ^ 3:=Nat.pow_le_pow_right (by decide) (by omega)
    omega
   have hle:=byte_le s[k]
   by_cases hd : (s[k].toNat : Int) < 128
   ·go_wp2
    go_ret2
    have hnone : tails V ((s.data.toList.drop 1).take 3) = none:=tails_none_take _ _ k _ (by omega) (by rw [HS.out,if_pos (.inl hd)])
    refine ⟨oneEnd_of ?_,rfl⟩
    rw [HO.out,hnone]; rfl
   by_cases hd2 : (s[k].toNat : Int) < 192
   ·have hx2 : x <= 262143:=by omega
    go_wp2
    go_round
    case rel => exact ⟨k + 1,64 * x + (s[k].toNat : Int) - 128,by omega,by omega,by go_num,by first | rfl | go_num,by omega,by rw [hpw.out]; omega,Lib.hid (by rw [Nat.add_sub_cancel,HS.out,if_neg (by omega)])⟩
    case measure => simp [intOf]; omega
   ·have hd3 : 192 <= (s[k].toNat : Int):=by omega
    go_wp2
    go_ret2
    have hnone : tails V ((s.data.toList.drop 1).take 3) = none:=tails_none_take _ _ k _ (by omega) (by rw [HS.out,if_pos (.inr hd3)])
    refine ⟨oneEnd_of ?_,rfl⟩
    rw [HO.out,hnone]; rfl
  ·have hkN : k = 4:=by omega
   subst hkN
   have hfin : oneL s.data.toList = oneFin 4 (some x):=by rw [HO.out]; exact congrArg _ HT.out
   clear HO HT
   have HF:=Lib.hid hfin
   clear hfin
   by_cases hmy : mayB x = true
   ·have HM:=Lib.hid hmy
    clear hmy
    by_cases hlg : longI x = 4
    ·have hne : (longI x != 4) = false:=by simp [hlg]
     have HL:=Lib.hid hlg
     clear hlg
     go_wp2_with (first
      | (go_at_call 158; refine (may_any _ _).mono ?_; rintro e w' ⟨rfl,rfl⟩; rw [HM.out])
      | (go_at_call 159; refine (long_any _ _).mono ?_; rintro e w' ⟨rfl,rfl⟩))
     go_ret2
     exact ⟨oneEnd_of (by rw [HF.out]; exact if_pos ⟨HM.out,HL.out⟩),rfl⟩
    ·have hne : (longI x != 4) = true:=bne_iff_ne.2 hlg
     go_wp2_with (first
      | (go_at_call 158; refine (may_any _ _).mono ?_; rintro e w' ⟨rfl,rfl⟩; rw [HM.out])
      | (go_at_call 159; refine (long_any _ _).mono ?_; rintro e w' ⟨rfl,rfl⟩))
     go_ret2
     exact ⟨oneEnd_of (by rw [HF.out]; exact if_neg (fun h => hlg h.2)),rfl⟩
   ·have hmf : mayB x = false:=by simpa using hmy
    have HM:=Lib.hid hmf
    clear hmf
    have HM2:=Lib.hid hmy
    clear hmy
    go_wp2_with (first
     | (go_at_call 158; refine (may_any _ _).mono ?_; rintro e w' ⟨rfl,rfl⟩; rw [HM.out]))
    go_ret2
    exact ⟨oneEnd_of (by rw [HF.out]; exact if_neg (fun h => HM2.out h.1)),rfl⟩
theorem one_lead (s : ByteArray) (h : 0 < s.size) (n : Nat) (v : Int) (e1 : leadN s[0].toNat = n) (e2 : leadV s[0].toNat = v) (h0 : 128 <= (s[0].toNat : Int)) (hn : 1 <= n) (hs : n <= s.size) :
 oneL s.data.toList = oneFin n (tails v ((s.data.toList.drop 1).take (n - 1))):=by
 have hz : ((s.data.toList.drop 1).length : Int) + 1 = s.size:=by simp; omega
 have e0:=bytes_cons s h
 generalize s.data.toList.drop 1 = T at *
 rw [e0,oneL,if_neg (by omega),e1,e2,if_neg (by omega),show ((n : Int) - 1).toNat = n - 1 from by omega]
 cases tails v (T.take (n - 1)) <;> rfl
theorem one_end (s : ByteArray) (w : World) (hm : s.size <= 140737488355328) :
 Calls Tryz.prog 138 #[.string s] w fun e w' => OneEnd s.data.toList e /\ w = w':=by
 by_cases h : s.size = 0
 ·exact one_0 s w h
 have h : 0 < s.size:=by omega
 by_cases h1 : (s[0].toNat : Int) < 128
 ·exact one_1 s w hm h h1
 by_cases h2 : (s[0].toNat : Int) < 192 \/ 248 <= (s[0].toNat : Int)
 ·exact one_bad s w hm h (by omega) h2
 by_cases h3 : (s.size : Int) < leadN s[0].toNat
 ·exact one_short s w hm h (by omega) (by omega) h3
 by_cases c2 : (s[0].toNat : Int) < 224
 ·have e1 : leadN s[0].toNat = 2:=by unfold leadN; rw [if_pos (by omega)]
  have e2 : leadV s[0].toNat = s[0].toNat - 192:=by unfold leadV; rw [if_pos (by omega)]
  exact one_2b s w hm h (by omega) c2 (by omega) (one_lead s h 2 _ e1 e2 (by omega) (by omega) (by omega))
 by_cases c3 : (s[0].toNat : Int) < 240
 ·have e1 : leadN s[0].toNat = 3:=by unfold leadN; rw [if_neg (by omega),if_pos (by omega)]
  have e2 : leadV s[0].toNat = s[0].toNat - 224:=by unfold leadV; rw [if_neg (by omega),if_pos (by omega)]
  exact one_3b s w hm h (by omega) c3 (by omega) (one_lead s h 3 _ e1 e2 (by omega) (by omega) (by omega))
 ·have e1 : leadN s[0].toNat = 4:=by unfold leadN; rw [if_neg (by omega),if_neg (by omega),if_pos (by omega)]
  have e2 : leadV s[0].toNat = s[0].toNat - 240:=by unfold leadV; rw [if_neg (by omega),if_neg (by omega),if_pos (by omega)]
  exact one_4b s w hm h (by omega) (by omega) (by omega) (one_lead s h 4 _ e1 e2 (by omega) (by omega) (by omega))
theorem one_any (s : ByteArray) (w : World) (hm : s.size <= 140737488355328) :
 Calls Tryz.prog 138 #[.string s] w fun e w' => e = .returned (.tuple #[.int .i64 (oneL s.data.toList).1,.int .i64 (oneL s.data.toList).2]) /\ w = w':=one_end s w hm
def RunesPost (w : World) (l : List UInt8) (e : Ending) (w' : World) : Prop :=
 ∃ v,e = .returned (.tuple #[v,.bool (runesL l).isSome]) /\ ORow w' w.heap.size 3 v (((runesL l).getD []).map iV) /\ Below w.heap.size w w'
theorem runesPost_some {w wr : World} {v : Value} {out : List Int} {l : List UInt8} (h : runesL l = some out) (ho : ORow wr w.heap.size 3 v (out.map iV)) (hb : Below w.heap.size w wr) : RunesPost w l (.returned (.tuple #[v,.bool true])) wr :=
 ⟨v,by rw [h]; rfl,by rw [h]; exact ho,hb⟩
theorem runesPost_none {w wr : World} {l : List UInt8} (h : runesL l = none) (hb : Below w.heap.size w wr) : RunesPost w l (.returned (.tuple #[.slice none 0 0,.bool false])) wr :=
 ⟨_,by rw [h]; rfl,by rw [h]; exact ORow.nil _ _ _,hb⟩
def strSize : Value -> Nat | .string s => s.size | _ => 0
set_option maxHeartbeats 1000000 in
theorem rrunes_any (s : ByteArray) (w : World) (hm : s.size <= 1099511627776) :
 Calls Tryz.prog 100 #[.string s] w (RunesPost w s.data.toList):=by
 go_enter Tryz.func100,Tryz.ntmps100
 go_wp2
 go_loopw [0,4] (fun t v wr => ∃ (s' : ByteArray) (out : List Int),t = .string s' /\ s'.size + out.length <= s.size /\ ORow wr w.heap.size 3 v (out.map iV) /\ Below w.heap.size w wr /\ Hid (runesL s.data.toList = runesGo (rn0 out) s'.data.toList)) (fun t _ _ => strSize t)
 case atStart => exact ⟨s,[],rfl,by simp,ORow.nil _ _ _,Below.refl _ _,Lib.hid rfl⟩
 case round =>
  obtain ⟨s',out,rfl,hsz,hown,hbel,HR⟩:=hrel
  by_cases hpos : 0 < s'.size
  ·have hcs:=charStep out s'[0] (s'.data.toList.drop 1)
   rw [<- bytes_cons s' hpos] at hcs
   unfold CharStep at hcs
   by_cases hz : (oneL s'.data.toList).2 = 0
   ·rw [if_pos hz] at hcs
    have hnone : runesL s.data.toList = none:=by rw [HR.out,hcs]
    have HN:=Lib.hid hnone
    clear hnone hcs
    have hbz : ((oneL s'.data.toList).2 == 0) = true:=beq_iff_eq.2 hz
    have HZ:=Lib.hid hz
    clear hz
    go_wp2_with (first
     | (go_at_call 138; refine (one_any _ _ (by omega)).mono ?_; rintro e w' ⟨rfl,rfl⟩))
    go_ret2
    exact runesPost_none HN.out hbel
   ·rw [if_neg hz] at hcs
    obtain ⟨h1,h2,h3⟩:=hcs
    have HC:=Lib.hid h3
    clear h3
    have hbz : ((oneL s'.data.toList).2 == 0) = false:=beq_eq_false_iff_ne.2 hz
    clear hz
    generalize hO : oneL s'.data.toList = O at *
    have HOO:=Lib.hid hO
    clear hO
    rw [show s'.data.toList.length = s'.size from by simp] at h2
    have hbs:=hbel.size
    go_wp2_with (first
     | (go_at_call 138; refine (one_any _ _ (by omega)).mono ?_; rintro e w' ⟨rfl,rfl⟩; rw [HOO.out])
     | (at_builtin; refine wp_app1b rfl _ _ 27 rfl w.heap.size 3 (.int .i64 0) 8 Tryz.underlying27 Tryz.info3 rfl _ _ _ rfl (by exact hown) rfl _ rfl (by simp [maxLen]; omega) (by simp; omega) hbs ?_; intro v1 w1 hown1 hb1))
    have hrow : ORow w1 w.heap.size 3 v1 ((out ++ [O.1]).map iV):=by simpa [iV] using hown1
    have hbel1:=hbel.trans (hb1.mono (Nat.le_refl _))
    clear hown hown1 hb1
    go_roundw
    case rel =>
     refine ⟨_,out ++ [O.1],rfl,?_,hrow,hbel1,Lib.hid ?_⟩
     ·simp
      omega
     ·rw [HR.out,HC.out,extract_all]
    case measure => simp [strSize]; omega
  ·have hz : s'.size = 0:=by omega
   have hl : s'.data.toList = []:=List.eq_nil_of_length_eq_zero (by simpa using hz)
   have hsome : runesL s.data.toList = some out:=by rw [HR.out,hl]; rfl
   have HN:=Lib.hid hsome
   clear hsome hl hz
   go_wp2
   go_ret2
   exact runesPost_some HN.out hown hbel
theorem valid_any (s : ByteArray) (w : World) (hm : s.size <= 1099511627776) :
 Calls Tryz.prog 57 #[.string s] w fun e w' => e = .returned (.bool (runesL s.data.toList).isSome) /\ Below w.heap.size w w':=by
 go_enter Tryz.func57,Tryz.ntmps57
 go_wp2_with (first
  | (go_at_call 100; refine (rrunes_any s _ hm).mono ?_; rintro e w1 ⟨v,rfl,_,hb1⟩))
 go_ret
 exact ⟨rfl,hb1⟩
end Go.Proofs.YtbnppjmmlfncmaaGreatDoor
namespace Go.Proofs.YtbnppjmmlfncmaaGreatDoor.Qt
open Go.RowKit Go.Maps
variable [Fo]
end Go.Proofs.YtbnppjmmlfncmaaGreatDoor.Qt
namespace Go.Proofs.YtbnppjmmlfncmaaGreatDoor
open Go.RowKit Go.Maps
theorem begins_any (b : Int) (w : World) :
 Calls Tryz.prog 68 #[.int .u8 b] w fun e w' => e = .returned (.bool (firstB b)) /\ w = w':=by
 go_enter Tryz.func68,Tryz.ntmps68
 go_wp2
 all_goals go_ret
 all_goals refine ⟨ret_bool ?_,rfl⟩
 all_goals simp only [firstB]
 all_goals (rw [Bool.eq_iff_iff]; simp; try omega)
theorem later_of_first {b : Int} (h : firstB b = true) : laterB b = true:=by
 unfold firstB at h
 unfold laterB
 rw [decide_eq_true_iff] at h ⊢
 omega
theorem later_eq (b : Int) : laterB b = (firstB b || decide ((48 <= b /\ b <= 57) \/ b = 45 \/ b = 46)):=by
 unfold firstB laterB
 rw [Bool.eq_iff_iff]
 simp
 omega
theorem inloc_any (b : Int) (w : World) :
 Calls Tryz.prog 69 #[.int .u8 b] w fun e w' => e = .returned (.bool (laterB b)) /\ w = w':=by
 cases hf : firstB b
 all_goals have HF:=Lib.hid hf
 all_goals clear hf
 all_goals
  go_enter Tryz.func69,Tryz.ntmps69
  go_wp2_with (go_at_call 68; refine (begins_any _ _).mono ?_; rintro e w' ⟨rfl,rfl⟩; rw [HF.out])
 all_goals go_ret
 all_goals refine ⟨ret_bool ?_,rfl⟩
 all_goals rw [later_eq]
 all_goals first
  | (rw [HF.out]; simp only [Bool.true_or]; done)
  | (rw [HF.out,Bool.eq_iff_iff]; simp; try omega)
  | decide
theorem inspace_any (b : Int) (w : World) :
 Calls Tryz.prog 165 #[.int .u8 b] w fun e w' => e = .returned (.bool (!badB b)) /\ w = w':=by
 go_enter Tryz.func165,Tryz.ntmps165
 go_wp2
 all_goals try (go_step3; go_wp2)
 all_goals go_ret
 all_goals refine ⟨ret_bool ?_,rfl⟩
 all_goals simp only [beq_iff_eq,beq_eq_false_iff_ne] at *
 all_goals (rw [Bool.eq_iff_iff]; simp [badB]; try omega)
theorem local_eq (s : ByteArray) (h : 0 < s.size) (h16 : s.size <= 16) : localL s.data.toList = (firstB (s[0].toNat : Int) && s.data.toList.all (fun d => laterB (d.toNat : Int))):=by
 have hl : s.data.toList.length = s.size:=by simp
 have he:=bytes_cons s h
 rw [he] at hl ⊢
 generalize List.drop 1 s.data.toList = t at *
 simp only [List.length_cons] at hl
 simp only [localL,List.all_cons]
 rw [decide_eq_true (show t.length < 16 by omega),Bool.true_and]
 cases hf : firstB (s[0].toNat : Int)
 ·rfl
 ·rw [later_of_first hf,Bool.true_and,Bool.true_and]
theorem local_long (s : ByteArray) (h : s.size = 0 \/ 16 < s.size) : localL s.data.toList = false:=by
 have hl : s.data.toList.length = s.size:=by simp
 cases hb : localL s.data.toList with
 | false => rfl
 | true => have:=local_len hb; omega
theorem all_snoc {p : UInt8 -> Bool} {s : ByteArray} {k : Nat} (h : k < s.size) (ha : (s.data.toList.take k).all p = true) : (s.data.toList.take (k + 1)).all p = p s[k]:=by
 rw [take_snoc s k h,List.all_append,ha]
 simp
theorem all_break {p : UInt8 -> Bool} {s : ByteArray} {k : Nat} (h : k < s.size) (hp : p s[k] = false) : s.data.toList.all p = false:=by
 cases ha : s.data.toList.all p with
 | false => rfl
 | true =>
  rw [List.all_eq_true] at ha
  have:=ha s[k] (by simp [ByteArray.getElem_eq_getElem_data])
  rw [hp] at this
  cases this
theorem str_ne {s : ByteArray} (h : ¬ s.size = 0) : s.toList.isEmpty = false:=by
 rw [Lib.toList_data]
 cases hl : s.data.toList with
 | nil => have : s.data.toList.length = s.size:=by simp
          rw [hl] at this
          simp at this
          omega
 | cons c t => rfl
theorem str_ne2 {s : ByteArray} (h : ¬ s.size = 0) : ¬ s.toList = []:=by
 have:=str_ne h
 intro hc
 rw [hc] at this
 cases this
set_option maxHeartbeats 1000000 in
theorem local_any (s : ByteArray) (w : World) (hm : s.size <= 140737488355328) :
 Calls Tryz.prog 39 #[.string s] w fun e w' => e = .returned (.bool (localL s.data.toList)) /\ w = w':=by
 by_cases h0 : s.size = 0
 ·rw [local_long s (.inl h0)]
  have hs : s = ⟨#[]⟩:=ByteArray.ext (Array.eq_empty_of_size_eq_zero h0)
  subst hs
  go_enter Tryz.func39,Tryz.ntmps39
  go_wp2
  go_ret
  exact ⟨rfl,rfl⟩
 have hn1:=str_ne h0
 have hn2:=str_ne2 h0
 by_cases h16 : 16 < s.size
 ·rw [local_long s (.inr h16)]
  go_enter Tryz.func39,Tryz.ntmps39
  go_wp2
  go_ret
  exact ⟨rfl,rfl⟩
 have hp : 0 < s.size:=by omega
 have hR:=local_eq s hp (by omega)
 generalize hgl : localL s.data.toList = R at *
 have HR:=Lib.hid hR
 clear hR hgl h0
 rcases Bool.eq_false_or_eq_true (firstB (s[0].toNat : Int)) with hf | hf
 case' inl => have HF:=Lib.hid hf
 case' inr => have HF:=Lib.hid hf
 all_goals clear hf
 case inr =>
  go_enter Tryz.func39,Tryz.ntmps39
  go_wp2_with (go_at_call 68; refine (begins_any _ _).mono ?_; rintro e w' ⟨rfl,rfl⟩; rw [HF.out])
  go_ret
  refine ⟨ret_bool ?_,rfl⟩
  rw [HR.out,HF.out]
  rfl
 case inl =>
  go_enter Tryz.func39,Tryz.ntmps39
  go_wp2_with (go_at_call 68; refine (begins_any _ _).mono ?_; rintro e w' ⟨rfl,rfl⟩; rw [HF.out])
  go_loop [19] (fun i => ∃ k : Nat,k <= s.size /\ i = .int .i64 k /\ Hid ((s.data.toList.take k).all (fun d => laterB (d.toNat : Int)) = true)) (fun i => s.size - (intOf i).toNat)
  case atStart => exact ⟨0,Nat.zero_le _,rfl,Lib.hid rfl⟩
  case round =>
   obtain ⟨k,hk,rfl,HK⟩:=hrel
   by_cases hlt : k < s.size
   ·rcases Bool.eq_false_or_eq_true (laterB (s[k].toNat : Int)) with hl | hl
    case' inl => have HL:=Lib.hid hl
    case' inr => have HL:=Lib.hid hl
    all_goals clear hl
    case inr =>
     go_wp2_with (go_at_call 69; refine (inloc_any _ _).mono ?_; rintro e w' ⟨rfl,rfl⟩; rw [HL.out])
     go_ret
     refine ⟨ret_bool ?_,rfl⟩
     rw [HR.out,all_break hlt HL.out,Bool.and_false]
    case inl =>
     go_wp2_with (go_at_call 69; refine (inloc_any _ _).mono ?_; rintro e w' ⟨rfl,rfl⟩; rw [HL.out])
     go_round
     case rel => exact ⟨k + 1,by omega,by go_num,Lib.hid ((all_snoc hlt HK.out).trans HL.out)⟩
     case measure => simp [intOf]; omega
   ·go_wp2
    go_ret
    refine ⟨ret_bool ?_,rfl⟩
    have hK:=HK.out
    rw [List.take_of_length_le (by simp; omega)] at hK
    rw [HR.out,HF.out,hK]
    rfl
theorem space_long (s : ByteArray) (h : s.size = 0 \/ 48 < s.size) : spaceL s.data.toList = false:=by
 have hl : s.data.toList.length = s.size:=by simp
 cases hb : spaceL s.data.toList with
 | false => rfl
 | true => have:=space_len hb; omega
theorem space_eq (s : ByteArray) (h : 0 < s.size) (h48 : s.size <= 48) : spaceL s.data.toList = ((runesL s.data.toList).isSome && s.data.toList.all (fun d => !badB (d.toNat : Int))):=by
 have hl : s.data.toList.length = s.size:=by simp
 unfold spaceL
 rw [decide_eq_true (show 1 <= s.data.toList.length /\ s.data.toList.length <= 48 by omega),Bool.and_true]
set_option maxHeartbeats 1000000 in
theorem space_any (s : ByteArray) (w : World) (hm : s.size <= 140737488355328) :
 Calls Tryz.prog 148 #[.string s] w fun e w' => e = .returned (.bool (spaceL s.data.toList)) /\ Below w.heap.size w w':=by
 by_cases h0 : s.size = 0
 ·rw [space_long s (.inl h0)]
  have hs : s = ⟨#[]⟩:=ByteArray.ext (Array.eq_empty_of_size_eq_zero h0)
  subst hs
  go_enter Tryz.func148,Tryz.ntmps148
  go_wp2
  go_ret
  exact ⟨rfl,Below.refl _ _⟩
 have hn1:=str_ne h0
 have hn2:=str_ne2 h0
 by_cases h48 : 48 < s.size
 ·rw [space_long s (.inr h48)]
  go_enter Tryz.func148,Tryz.ntmps148
  go_wp2
  go_ret
  exact ⟨rfl,Below.refl _ _⟩
 have hR:=space_eq s (by omega) (by omega)
 generalize hgl : spaceL s.data.toList = R at *
 have HR:=Lib.hid hR
 clear hR hgl h0
 go_enter Tryz.func148,Tryz.ntmps148
 go_wp2_with (first
  | (go_at_call 101; refine (new_any _).mono ?_; rintro e w' ⟨rfl,rfl⟩))
 go_loopw [15] (fun i wr => ∃ (k : Nat) (l lo hi : Int),k <= s.size /\ i = .int .i64 k /\ ScanAt wr w.heap.size l lo hi /\ 0 <= l /\ l <= 3 /\ Below w.heap.size w wr /\ Hid (UtfAt s.data.toList k l lo hi) /\ Hid ((s.data.toList.take k).all (fun d => !badB (d.toNat : Int)) = true)) (fun i _ => s.size - (intOf i).toNat)
 case atStart => exact ⟨0,0,128,191,Nat.zero_le _,rfl,Blk.new w _ _,by decide,by decide,(Below.refl _ _).alloc (Nat.le_refl _) _,Lib.hid ⟨0,[],rfl⟩,Lib.hid rfl⟩
 case round =>
  obtain ⟨k,l,lo,hi,hk,rfl,hsc,h0,h3,hbel,HW,HK⟩:=hrel
  by_cases hlt : k < s.size
  ·have hle:=byte_le s[k]
   have HD:=Lib.hid (drop_cons s k hlt)
   have hr:=stL_range (b:=s[k].toNat) h0 h3
   obtain ⟨hr0,hr3⟩:=hr
   rcases Bool.eq_false_or_eq_true (badB (s[k].toNat : Int)) with hb | hb
   case' inl => have HB:=Lib.hid hb
   case' inr => have HB:=Lib.hid hb
   all_goals clear hb
   case inl =>
    have HX:=Lib.hid (all_break (p:=fun d => !badB (d.toNat : Int)) hlt (by rw [HB.out]; rfl))
    go_wp2_with (first
     | (go_at_call 165; refine (inspace_any _ _).mono ?_; rintro e w' ⟨rfl,rfl⟩; rw [HB.out]))
    go_ret
    refine ⟨ret_bool ?_,hbel⟩
    rw [HR.out,HX.out,Bool.and_false]
   case inr =>
    have HX:=Lib.hid (all_snoc (p:=fun d => !badB (d.toNat : Int)) hlt HK.out)
    go_wp2_with (first
     | (go_at_call 165; refine (inspace_any _ _).mono ?_; rintro e w' ⟨rfl,rfl⟩; rw [HB.out]))
    refine (step_any _ _ _ _ _ _ hsc h0 h3 (by omega) hle).mono ?_
    rintro e w1 ⟨rfl,hg1,hs1⟩
    have hbel1 : Below w.heap.size w w1:=below_only hbel hg1 hbel.size (Nat.le_refl _)
    clear hg1 hsc hbel
    generalize hO : stOk l lo hi s[k].toNat = O at *
    have HO:=Lib.hid hO
    clear hO
    cases O
    ·have HE:=Lib.hid (utf_bad HD.out HW.out HO.out)
     go_wp2
     go_ret
     refine ⟨ret_bool ?_,hbel1⟩
     rw [HR.out,HE.out,Bool.false_and]
    ·rw [if_pos rfl] at hs1
     go_wp2
     go_roundw
     case rel => exact ⟨k + 1,_,_,_,by omega,by go_num,hs1,hr0,hr3,hbel1,Lib.hid (utf_step HD.out HW.out HO.out),Lib.hid (HX.out.trans (by rw [HB.out]; rfl))⟩
     case measure => simp [intOf]; omega
  ·have hend:=utf_end (by simp; omega) HW.out
   have HE:=Lib.hid hend
   clear hend
   go_wp2_with (first
    | (go_at_call 109; refine (whole_any _ _ _ _ _ hsc).mono ?_; rintro e w' ⟨rfl,rfl⟩))
   go_ret
   refine ⟨ret_bool ?_,hbel⟩
   have hK:=HK.out
   rw [List.take_of_length_le (by simp; omega)] at hK
   rw [HR.out,HE.out,hK,Bool.and_true]
theorem clone_any (s : ByteArray) (w : World) (hm : s.size <= 140737488355328) :
 Calls Tryz.prog 41 #[.string s] w fun e w' => e = .returned (.string s) /\ Below w.heap.size w w':=by
 go_enter Tryz.func41,Tryz.ntmps41
 go_wp2_with (go_at_call 71; refine (Tryz.stringslite_Clone s w (by omega)).mono ?_; rintro e w' ⟨rfl,hb⟩)
 go_ret
 exact ⟨rfl,hb⟩
def cutAt (l : List UInt8) : List UInt8 × List UInt8 × Bool :=
 match l.dropWhile noEnd with
 | [] => (l,[],false)
 | _ :: b => (l.takeWhile noEnd,b,true)
theorem noEnd_iff (c : UInt8) : noEnd c = !(c == 125):=by
 unfold noEnd
 rw [Bool.eq_iff_iff]
 simp
 constructor
 ·intro h hc; subst hc; exact h rfl
 ·intro h hc; exact h (UInt8.toNat_inj.1 (by rw [show (125 : UInt8).toNat = 125 from rfl]; omega))
theorem index_none {l : List UInt8} (h : l.dropWhile noEnd = []) : Lib.indexByte l 125 = -1:=by
 induction l with
 | nil => rfl
 | cons c t ih =>
  rw [List.dropWhile_cons] at h
  split at h
  ·rename_i hc
   have hc' : (c == 125) = false:=by rw [noEnd_iff] at hc; simpa using hc
   simp only [Lib.indexByte,hc',ih h]
   rfl
  ·cases h
theorem index_some {l b : List UInt8} {c : UInt8} (h : l.dropWhile noEnd = c :: b) : Lib.indexByte l 125 = ((l.takeWhile noEnd).length : Int):=by
 induction l with
 | nil => cases h
 | cons d t ih =>
  rw [List.dropWhile_cons] at h
  rw [List.takeWhile_cons]
  split at h
  ·rename_i hc
   have hc' : (d == 125) = false:=by rw [noEnd_iff] at hc; simpa using hc
   have e:=ih h
   simp only [Lib.indexByte,hc',e]
   rw [if_neg (by simp),if_neg (by simp),if_pos hc]
   simp
  ·rename_i hc
   have hc' : (d == 125) = true:=by rw [noEnd_iff] at hc; simpa using hc
   simp only [Lib.indexByte,hc']
   rw [if_pos trivial,if_neg hc]
   rfl
theorem parts_len {l b : List UInt8} {c : UInt8} (h : l.dropWhile noEnd = c :: b) : (l.takeWhile noEnd).length + 1 + b.length = l.length:=by
 have:=congrArg List.length (List.takeWhile_append_dropWhile (p:=noEnd) (l:=l))
 rw [h,List.length_append,List.length_cons] at this
 omega
theorem parts_eq {l b : List UInt8} {c : UInt8} (h : l.dropWhile noEnd = c :: b) : l = l.takeWhile noEnd ++ c :: b:=by rw [<- h]; exact List.takeWhile_append_dropWhile.symm
theorem parts_take {l b : List UInt8} {c : UInt8} (h : l.dropWhile noEnd = c :: b) : l.take (l.takeWhile noEnd).length = l.takeWhile noEnd:=by
 have e:=parts_eq h
 generalize l.takeWhile noEnd = a at *
 subst e
 simp
theorem parts_drop {l b : List UInt8} {c : UInt8} (h : l.dropWhile noEnd = c :: b) : l.drop ((l.takeWhile noEnd).length + 1) = b:=by
 have e:=parts_eq h
 generalize l.takeWhile noEnd = a at *
 subst e
 rw [List.drop_append]
 simp
theorem index_any (s : ByteArray) (w : World) :
 Calls Tryz.prog 107 #[.string s,.string ⟨#[125]⟩] w fun e w' => e = .returned (.int .i64 (Lib.indexByte s.data.toList 125)) /\ w = w':=by
 cases hE : ([125] == s.toList)
 ·have hE2 : ¬ ([125] = s.toList):=by simpa using hE
  go_enter Tryz.func107,Tryz.ntmps107
  go_wp2_with (go_at_call 142; refine (Tryz.stringslite_IndexByte s _ _).mono ?_; rintro e w' ⟨rfl,rfl⟩)
  go_ret
  exact ⟨rfl,rfl⟩
 ·have hE2 : [125] = s.toList:=by simpa using hE
  have hI:=Lib.hid (show Lib.indexByte s.data.toList 125 = 0 by rw [<- Lib.toList_data,<- hE2]; rfl)
  clear hE2
  go_enter Tryz.func107,Tryz.ntmps107
  go_wp2_with (go_at_call 142; refine (Tryz.stringslite_IndexByte s _ _).mono ?_; rintro e w' ⟨rfl,rfl⟩)
  go_ret
  exact ⟨ret_int hI.out.symm,rfl⟩
def CutAtEnd (l : List UInt8) : Ending:=.returned (.tuple #[.string ⟨(cutAt l).1.toArray⟩,.string ⟨(cutAt l).2.1.toArray⟩,.bool (cutAt l).2.2])
theorem str_of (s : ByteArray) : (⟨s.data.toList.toArray⟩ : ByteArray) = s:=rfl
set_option maxHeartbeats 400000 in
theorem lcut_any (s : ByteArray) (w : World) (hm : s.size <= 140737488355328) :
 Calls Tryz.prog 164 #[.string s,.string ⟨#[125]⟩] w fun e w' => e = CutAtEnd s.data.toList /\ ∃ n,w' = w.drewN n:=by
 have hl : s.data.toList.length = s.size:=by simp
 cases hd : s.data.toList.dropWhile noEnd with
 | nil =>
  have hi:=Lib.hid (index_none hd)
  have hE : CutAtEnd s.data.toList = .returned (.tuple #[.string s,.string ⟨#[]⟩,.bool false]):=by
   unfold CutAtEnd cutAt
   rw [hd]
  rw [hE]
  clear hE hd hl
  go_enter Tryz.func164,Tryz.ntmps164
  go_wp2_with (go_at_call 107; refine (index_any s _).mono ?_; rintro e w' ⟨rfl,rfl⟩; rw [hi.out])
  go_ret3
  exact ⟨rfl,0,rfl⟩
 | cons c b =>
  have hi:=Lib.hid (index_some hd)
  have hlen:=parts_len hd
  have hE : CutAtEnd s.data.toList = .returned (.tuple #[.string (s.extract 0 (s.data.toList.takeWhile noEnd).length),.string (s.extract ((s.data.toList.takeWhile noEnd).length + 1) s.size),.bool true]):=by
   have p1 : s.extract 0 (s.data.toList.takeWhile noEnd).length = ⟨(s.data.toList.takeWhile noEnd).toArray⟩:=by
    apply ByteArray.ext
    apply Array.toList_inj.1
    rw [show (s.extract 0 (s.data.toList.takeWhile noEnd).length).data.toList = s.data.toList.take (s.data.toList.takeWhile noEnd).length from by simp,parts_take hd]
   have p2 : s.extract ((s.data.toList.takeWhile noEnd).length + 1) s.size = ⟨b.toArray⟩:=by
    apply ByteArray.ext
    apply Array.toList_inj.1
    rw [show (s.extract ((s.data.toList.takeWhile noEnd).length + 1) s.size).data.toList = s.data.toList.drop ((s.data.toList.takeWhile noEnd).length + 1) from extract_all _ _,parts_drop hd]
   rw [p1,p2]
   unfold CutAtEnd cutAt
   rw [hd]
  rw [hE]
  clear hE
  generalize (s.data.toList.takeWhile noEnd).length = i at *
  have c1 : (0 : Int) <= ↑i:=by omega
  have c2 : (↑i : Int) <= ↑s.size:=by omega
  have c3 : (0 : Int) <= ↑i + 1:=by omega
  have c4 : (↑i + 1 : Int) <= ↑s.size:=by omega
  clear hd hl hlen
  go_enter Tryz.func164,Tryz.ntmps164
  go_wp2_with (go_at_call 107; refine (index_any s _).mono ?_; rintro e w' ⟨rfl,rfl⟩; rw [hi.out])
  go_region
  go_wp2
  go_ret3
  exact ⟨rfl,1,rfl⟩
end Go.Proofs.YtbnppjmmlfncmaaGreatDoor
