/-
  The reference's One and Runes, whole; 'same' of two lists.
  The reference's Valid (hexaplaref01): whether a text has characters.
  The reference's Print (hexaplaref03): the same text, or refused.
  names: which bytes a name may have; Local, Space of the program.
  names: Space, Cut and Join of the program.
-/
import Derived.Test.YtbnppjmmlfncmaaGreatDoorIsA05
import Derived.Test.YtbnppjmmlfncmaaGreatDoorIsA08
import Derived.Test.YtbnppjmmlfncmaaGreatDoorIsA06
import Derived.Lib.Strings
import Derived.BigQuiet
import Derived.Deep.QuietTactic
import Derived.Test.YtbnppjmmlfncmaaGreatDoorIsA07
import Derived.Test.YtbnppjmmlfncmaaGreatDoorIsA02
import Derived.Test.YtbnppjmmlfncmaaGreatDoorShelf
set_option maxRecDepth 100000
namespace Go.Proofs.YtbnppjmmlfncmaaGreatDoor
open Go.RowKit
theorem one_lead (s : ByteArray) (h : 0 < s.size) (n : Nat) (v : Int) (e1 : leadN s[0].toNat = n) (e2 : leadV s[0].toNat = v) (h0 : 128 <= (s[0].toNat : Int)) (hn : 1 <= n) (hs : n <= s.size) :
 oneL s.data.toList = oneFin n (tails v ((s.data.toList.drop 1).take (n - 1))):=by
 have hz : ((s.data.toList.drop 1).length : Int) + 1 = s.size:=by simp; omega
 have e0:=bytes_cons s h
 generalize s.data.toList.drop 1 = T at *
 rw [e0,oneL,if_neg (by omega),e1,e2,if_neg (by omega),show ((n : Int) - 1).toNat = n - 1 from by omega]
 cases tails v (T.take (n - 1)) <;> rfl
theorem one_end (s : ByteArray) (w : World) (hm : s.size <= 140737488355328) :
 Calls Tryz.prog 138 #[.string s] w fun e w' => OneEnd s.data.toList e /\ w = w':=by
 by_cases h : s.size = 0
 ·exact one_0 s w h
 have h : 0 < s.size:=by omega
 by_cases h1 : (s[0].toNat : Int) < 128
 ·exact one_1 s w hm h h1
 by_cases h2 : (s[0].toNat : Int) < 192 \/ 248 <= (s[0].toNat : Int)
 ·exact one_bad s w hm h (by omega) h2
 by_cases h3 : (s.size : Int) < leadN s[0].toNat
 ·exact one_short s w hm h (by omega) (by omega) h3
 by_cases c2 : (s[0].toNat : Int) < 224
 ·have e1 : leadN s[0].toNat = 2:=by unfold leadN; rw [if_pos (by omega)]
  have e2 : leadV s[0].toNat = s[0].toNat - 192:=by unfold leadV; rw [if_pos (by omega)]
  exact one_2b s w hm h (by omega) c2 (by omega) (one_lead s h 2 _ e1 e2 (by omega) (by omega) (by omega))
 by_cases c3 : (s[0].toNat : Int) < 240
 ·have e1 : leadN s[0].toNat = 3:=by unfold leadN; rw [if_neg (by omega),if_pos (by omega)]
  have e2 : leadV s[0].toNat = s[0].toNat - 224:=by unfold leadV; rw [if_neg (by omega),if_pos (by omega)]
  exact one_3b s w hm h (by omega) c3 (by omega) (one_lead s h 3 _ e1 e2 (by omega) (by omega) (by omega))
 ·have e1 : leadN s[0].toNat = 4:=by unfold leadN; rw [if_neg (by omega),if_neg (by omega),if_pos (by omega)]
  have e2 : leadV s[0].toNat = s[0].toNat - 240:=by unfold leadV; rw [if_neg (by omega),if_neg (by omega),if_pos (by omega)]
  exact one_4b s w hm h (by omega) (by omega) (by omega) (one_lead s h 4 _ e1 e2 (by omega) (by omega) (by omega))
theorem one_any (s : ByteArray) (w : World) (hm : s.size <= 140737488355328) :
 Calls Tryz.prog 138 #[.string s] w fun e w' => e = .returned (.tuple #[.int .i64 (oneL s.data.toList).1,.int .i64 (oneL s.data.toList).2]) /\ w = w':=one_end s w hm
def RunesPost (w : World) (l : List UInt8) (e : Ending) (w' : World) : Prop :=
 ∃ v,e = .returned (.tuple #[v,.bool (runesL l).isSome]) /\ ORow w' w.heap.size 3 v (((runesL l).getD []).map iV) /\ Below w.heap.size w w'
theorem runesPost_some {w wr : World} {v : Value} {out : List Int} {l : List UInt8} (h : runesL l = some out) (ho : ORow wr w.heap.size 3 v (out.map iV)) (hb : Below w.heap.size w wr) : RunesPost w l (.returned (.tuple #[v,.bool true])) wr :=
 ⟨v,by rw [h]; rfl,by rw [h]; exact ho,hb⟩
theorem runesPost_none {w wr : World} {l : List UInt8} (h : runesL l = none) (hb : Below w.heap.size w wr) : RunesPost w l (.returned (.tuple #[.slice none 0 0,.bool false])) wr :=
 ⟨_,by rw [h]; rfl,by rw [h]; exact ORow.nil _ _ _,hb⟩
def strSize : Value -> Nat | .string s => s.size | _ => 0
set_option maxHeartbeats 1000000 in
theorem rrunes_any (s : ByteArray) (w : World) (hm : s.size <= 1099511627776) :
 Calls Tryz.prog 100 #[.string s] w (RunesPost w s.data.toList):=by
 go_enter Tryz.func100,Tryz.ntmps100
 go_wp2
 go_loopw [0,4] (fun t v wr => ∃ (s' : ByteArray) (out : List Int),t = .string s' /\ s'.size + out.length <= s.size /\ ORow wr w.heap.size 3 v (out.map iV) /\ Below w.heap.size w wr /\ Hid (runesL s.data.toList = runesGo (rn0 out) s'.data.toList)) (fun t _ _ => strSize t)
 case atStart => exact ⟨s,[],rfl,by simp,ORow.nil _ _ _,Below.refl _ _,Lib.hid rfl⟩
 case round =>
  obtain ⟨s',out,rfl,hsz,hown,hbel,HR⟩:=hrel
  by_cases hpos : 0 < s'.size
  ·have hcs:=charStep out s'[0] (s'.data.toList.drop 1)
   rw [<- bytes_cons s' hpos] at hcs
   unfold CharStep at hcs
   by_cases hz : (oneL s'.data.toList).2 = 0
   ·rw [if_pos hz] at hcs
    have hnone : runesL s.data.toList = none:=by rw [HR.out,hcs]
    have HN:=Lib.hid hnone
    clear hnone hcs
    have hbz : ((oneL s'.data.toList).2 == 0) = true:=beq_iff_eq.2 hz
    have HZ:=Lib.hid hz
    clear hz
    go_wp2_with (first
     | (go_at_call 138; refine (one_any _ _ (by omega)).mono ?_; rintro e w' ⟨rfl,rfl⟩))
    go_ret2
    exact runesPost_none HN.out hbel
   ·rw [if_neg hz] at hcs
    obtain ⟨h1,h2,h3⟩:=hcs
    have HC:=Lib.hid h3
    clear h3
    have hbz : ((oneL s'.data.toList).2 == 0) = false:=beq_eq_false_iff_ne.2 hz
    clear hz
    generalize hO : oneL s'.data.toList = O at *
    have HOO:=Lib.hid hO
    clear hO
    rw [show s'.data.toList.length = s'.size from by simp] at h2
    have hbs:=hbel.size
    go_wp2_with (first
     | (go_at_call 138; refine (one_any _ _ (by omega)).mono ?_; rintro e w' ⟨rfl,rfl⟩; rw [HOO.out])
     | (at_builtin; refine wp_app1b rfl _ _ 27 rfl w.heap.size 3 (.int .i64 0) 8 Tryz.underlying27 Tryz.info3 rfl _ _ _ rfl (by exact hown) rfl _ rfl (by simp [maxLen]; omega) (by simp; omega) hbs ?_; intro v1 w1 hown1 hb1))
    have hrow : ORow w1 w.heap.size 3 v1 ((out ++ [O.1]).map iV):=by simpa [iV] using hown1
    have hbel1:=hbel.trans (hb1.mono (Nat.le_refl _))
    clear hown hown1 hb1
    go_roundw
    case rel =>
     refine ⟨_,out ++ [O.1],rfl,?_,hrow,hbel1,Lib.hid ?_⟩
     ·simp
      omega
     ·rw [HR.out,HC.out,extract_all]
    case measure => simp [strSize]; omega
  ·have hz : s'.size = 0:=by omega
   have hl : s'.data.toList = []:=List.eq_nil_of_length_eq_zero (by simpa using hz)
   have hsome : runesL s.data.toList = some out:=by rw [HR.out,hl]; rfl
   have HN:=Lib.hid hsome
   clear hsome hl hz
   go_wp2
   go_ret2
   exact runesPost_some HN.out hown hbel
theorem valid_any (s : ByteArray) (w : World) (hm : s.size <= 1099511627776) :
 Calls Tryz.prog 57 #[.string s] w fun e w' => e = .returned (.bool (runesL s.data.toList).isSome) /\ Below w.heap.size w w':=by
 go_enter Tryz.func57,Tryz.ntmps57
 go_wp2_with (first
  | (go_at_call 100; refine (rrunes_any s _ hm).mono ?_; rintro e w1 ⟨v,rfl,_,hb1⟩))
 go_ret
 exact ⟨rfl,hb1⟩
end Go.Proofs.YtbnppjmmlfncmaaGreatDoor
namespace Go.Proofs.YtbnppjmmlfncmaaGreatDoor.Qt
open Go.RowKit Go.Maps
set_option maxHeartbeats 2000000 in
theorem rprint_any (s : ByteArray) (w : World) (hm : s.size <= 1099511627776) :
 Calls Tryz.prog 33 #[.string s] w fun e w' => e = PrintEnd s.data.toList /\ Below w.heap.size w w':=by
 have hsz : s.data.toList.length = s.size:=by simp
 by_cases hu : (runesL s.data.toList).isSome = true
 ·by_cases ho : 48 < s.size
  ·have hE : PrintEnd s.data.toList = .returned (.tuple #[.string ⟨#[]⟩,.int .i64 4]):=by
    unfold PrintEnd prText prErr; rw [if_pos hu,if_pos hu,if_pos (by omega),if_pos (by omega)]
   rw [hE]
   have HU:=Lib.hid hu
   clear hE hu
   go_enter Tryz.func33,Tryz.ntmps33
   go_wp2_with (first
    | (go_at_call 57; refine (valid_any s _ hm).mono ?_; rintro e w1 ⟨rfl,hb1⟩; rw [HU.out]))
   go_ret2
   exact ⟨rfl,hb1⟩
  ·have hE : PrintEnd s.data.toList = .returned (.tuple #[.string ⟨(34 :: (prAll s.data.toList ++ [34])).toArray⟩,.int .i64 0]):=by
    unfold PrintEnd prText prErr; rw [if_pos hu,if_pos hu,if_neg (by omega),if_neg (by omega)]; rfl
   rw [hE]
   have HU:=Lib.hid hu
   clear hE hu
   go_enter Tryz.func33,Tryz.ntmps33
   go_wp2_with (first
    | (go_at_call 57; refine (valid_any s _ hm).mono ?_; rintro e w1 ⟨rfl,hb1⟩; rw [HU.out])
    | (at_builtin; refine wp_app1b rfl _ _ 39 rfl w.heap.size 5 (.int .u8 0) 1 Tryz.underlying39 Tryz.info5 rfl _ _ _ rfl (by exact ORow.nil _ _ _) rfl _ rfl (by simp [maxLen]) (by simp) hb1.size ?_; intro v0 w0 hown0 hb0))
   have hb01:=hb1.trans hb0
   clear hb0
   go_loopw [5,6] (fun v i wr => ∃ (k : Nat),k <= s.size /\ i = .int .i64 k /\ ORow wr w.heap.size 5 v ((34 :: prAll (s.data.toList.take k)).map bV) /\ Below w.heap.size w wr) (fun _ i _ => s.size - (intOf i).toNat)
   case atStart => exact ⟨0,Nat.zero_le _,rfl,by exact hown0,hb01⟩
   case round =>
    obtain ⟨k,hk,rfl,hown,hbel⟩:=hrel
    have hbs:=hbel.size
    have hlen:=(prAll_len (s.data.toList.take k)).2
    have htl : (s.data.toList.take k).length <= k:=List.length_take_le _ _
    obtain ⟨A,cap,hv⟩:=hown.shape
    subst hv
    rw [List.length_map] at hown
    rw [List.length_map]
    by_cases hlt : k < s.size
    ·have hle:=byte_le s[k]
     have hx : (34 :: prAll (s.data.toList.take k)).length <= 1000:=by simp; omega
     have HT:=Lib.hid (take_snoc s k hlt)
     have hstep : ∀ w2 v2 news,(prB s[k]).map bV = news -> ORow w2 w.heap.size 5 v2 ((34 :: prAll (s.data.toList.take k)).map bV ++ news) -> ORow w2 w.heap.size 5 v2 ((34 :: prAll (s.data.toList.take (k + 1))).map bV):=by
      intro w2 v2 news hn h
      rw [HT.out,prAll_snoc,<- List.cons_append,List.map_append,hn]
      exact h
     generalize hxs : (34 :: prAll (s.data.toList.take k)) = xs at *
     clear hxs hlen htl
     obtain ⟨bi,hbi⟩ : ∃ bi : Int,(s[k].toNat : Int) = bi:=⟨_,rfl⟩
     have h0 : 0 <= bi:=by omega
     have h255 : bi <= 255:=by omega
     have HB:=Lib.hid hbi
     clear hle
     by_cases c34 : bi = 34
     ·have hp : (prB s[k]).map bV = [.int .u8 92,.int .u8 34]:=by
       unfold prB; rw [if_pos (by omega)]
       first | rfl | (simp only [List.map_cons,List.map_nil,bV]; rw [hbi,c34]; rfl)
      have HP:=Lib.hid hp
      have hval : (s[k].toNat : Int) = 34:=by omega
      clear hp hbi HB h0 h255
      clear c34
      go_wp2_with (first
       | (at_builtin; refine wp_appNb rfl _ _ 39 rfl w.heap.size 5 (.int .u8 0) 1 Tryz.underlying39 Tryz.info5 rfl _ _ _ 2 rfl (by exact hown) (by simp [Value.oneCell']) rfl _ rfl (by simp [maxLen]; omega) (by simp; omega) hbs ?_; intro v2 w2 hown2 hb2))
      have hrow:=hstep _ _ _ HP.out hown2
      have hbel2:=hbel.trans hb2
      clear hown2 hb2
      go_wp2
      go_roundw
      case rel => exact ⟨k + 1,by omega,by go_num,hrow,hbel2⟩
      case measure => simp [intOf]; omega
     by_cases c92 : bi = 92
     ·have hp : (prB s[k]).map bV = [.int .u8 92,.int .u8 92]:=by
       unfold prB; rw [if_pos (by omega)]
       first | rfl | (simp only [List.map_cons,List.map_nil,bV]; rw [hbi,c92]; rfl)
      have HP:=Lib.hid hp
      have hval : (s[k].toNat : Int) = 92:=by omega
      clear hp hbi HB h0 h255
      clear c92
      go_wp2_with (first
       | (at_builtin; refine wp_appNb rfl _ _ 39 rfl w.heap.size 5 (.int .u8 0) 1 Tryz.underlying39 Tryz.info5 rfl _ _ _ 2 rfl (by exact hown) (by simp [Value.oneCell']) rfl _ rfl (by simp [maxLen]; omega) (by simp; omega) hbs ?_; intro v2 w2 hown2 hb2))
      have hrow:=hstep _ _ _ HP.out hown2
      have hbel2:=hbel.trans hb2
      clear hown2 hb2
      go_wp2
      go_roundw
      case rel => exact ⟨k + 1,by omega,by go_num,hrow,hbel2⟩
      case measure => simp [intOf]; omega
     by_cases c10 : bi = 10
     ·have hp : (prB s[k]).map bV = [.int .u8 92,.int .u8 110]:=by
       unfold prB; rw [if_neg (by omega),if_pos (by omega)]
       first | rfl | (simp only [List.map_cons,List.map_nil,bV]; rw [hbi,c10]; rfl)
      have HP:=Lib.hid hp
      have hval : (s[k].toNat : Int) = 10:=by omega
      clear hp hbi HB h0 h255
      clear c10
      go_wp2_with (first
       | (at_builtin; refine wp_appNb rfl _ _ 39 rfl w.heap.size 5 (.int .u8 0) 1 Tryz.underlying39 Tryz.info5 rfl _ _ _ 2 rfl (by exact hown) (by simp [Value.oneCell']) rfl _ rfl (by simp [maxLen]; omega) (by simp; omega) hbs ?_; intro v2 w2 hown2 hb2))
      have hrow:=hstep _ _ _ HP.out hown2
      have hbel2:=hbel.trans hb2
      clear hown2 hb2
      go_wp2
      go_roundw
      case rel => exact ⟨k + 1,by omega,by go_num,hrow,hbel2⟩
      case measure => simp [intOf]; omega
     by_cases c9 : bi = 9
     ·have hp : (prB s[k]).map bV = [.int .u8 92,.int .u8 116]:=by
       unfold prB; rw [if_neg (by omega),if_neg (by omega),if_pos (by omega)]
       first | rfl | (simp only [List.map_cons,List.map_nil,bV]; rw [hbi,c9]; rfl)
      have HP:=Lib.hid hp
      have hval : (s[k].toNat : Int) = 9:=by omega
      clear hp hbi HB h0 h255
      clear c9
      go_wp2_with (first
       | (at_builtin; refine wp_appNb rfl _ _ 39 rfl w.heap.size 5 (.int .u8 0) 1 Tryz.underlying39 Tryz.info5 rfl _ _ _ 2 rfl (by exact hown) (by simp [Value.oneCell']) rfl _ rfl (by simp [maxLen]; omega) (by simp; omega) hbs ?_; intro v2 w2 hown2 hb2))
      have hrow:=hstep _ _ _ HP.out hown2
      have hbel2:=hbel.trans hb2
      clear hown2 hb2
      go_wp2
      go_roundw
      case rel => exact ⟨k + 1,by omega,by go_num,hrow,hbel2⟩
      case measure => simp [intOf]; omega
     by_cases c13 : bi = 13
     ·have hp : (prB s[k]).map bV = [.int .u8 92,.int .u8 114]:=by
       unfold prB; rw [if_neg (by omega),if_neg (by omega),if_neg (by omega),if_pos (by omega)]
       first | rfl | (simp only [List.map_cons,List.map_nil,bV]; rw [hbi,c13]; rfl)
      have HP:=Lib.hid hp
      have hval : (s[k].toNat : Int) = 13:=by omega
      clear hp hbi HB h0 h255
      clear c13
      go_wp2_with (first
       | (at_builtin; refine wp_appNb rfl _ _ 39 rfl w.heap.size 5 (.int .u8 0) 1 Tryz.underlying39 Tryz.info5 rfl _ _ _ 2 rfl (by exact hown) (by simp [Value.oneCell']) rfl _ rfl (by simp [maxLen]; omega) (by simp; omega) hbs ?_; intro v2 w2 hown2 hb2))
      have hrow:=hstep _ _ _ HP.out hown2
      have hbel2:=hbel.trans hb2
      clear hown2 hb2
      go_wp2
      go_roundw
      case rel => exact ⟨k + 1,by omega,by go_num,hrow,hbel2⟩
      case measure => simp [intOf]; omega
     have n34 : (bi == 34) = false:=beq_eq_false_iff_ne.2 c34
     have n92 : (bi == 92) = false:=beq_eq_false_iff_ne.2 c92
     have n10 : (bi == 10) = false:=beq_eq_false_iff_ne.2 c10
     have n9 : (bi == 9) = false:=beq_eq_false_iff_ne.2 c9
     have n13 : (bi == 13) = false:=beq_eq_false_iff_ne.2 c13
     by_cases c32 : bi < 32
     ·have q0 : 0 <= bi / 16:=by omega
      have q1 : bi / 16 < 16:=by omega
      have q2 : 0 <= bi % 16:=by omega
      have q3 : bi % 16 < 16:=by omega
      have r0:=hexD_rg _ q0 q1
      have r1:=hexD_rg _ q2 q3
      have hp : (prB s[k]).map bV = [.int .u8 92,.int .u8 117,.int .u8 48,.int .u8 48,.int .u8 (hexD (bi / 16)),.int .u8 (hexD (bi % 16))]:=by
       unfold prB; rw [if_neg (by omega),if_neg (by omega),if_neg (by omega),if_neg (by omega),if_pos (by omega)]
       rw [hbi]
       simp only [List.map_cons,List.map_nil]
       rw [bV_b8 _ r0.1 r0.2,bV_b8 _ r1.1 r1.2]
       rfl
      have HP:=Lib.hid hp
      clear hp c34 c92 c10 c9 c13 r0 r1
      go_wp2_with fail
      have t1 : bi.tdiv 16 = bi / 16:=Int.tdiv_eq_ediv_of_nonneg h0
      have t2 : bi.tmod 16 = bi % 16:=Int.tmod_eq_emod_of_nonneg h0
      have t3 : IntKind.u8.wrap (bi / 16) = bi / 16:=IntWalk.u8_in _ (by omega)
      have t4 : IntKind.u8.wrap (bi % 16) = bi % 16:=IntWalk.u8_in _ (by omega)
      go_region_law ((refine step_appN (by rfl) (.tmp 63) (.tmp 70) 39 (by rfl) w.heap.size 5 (.int .u8 0) 1 Tryz.underlying39 Tryz.info5 (by rfl) _ _ _ 6 (by rfl) (by exact hown) (by simp [Value.oneCell']) (by rfl) _ (by rfl) (by simp [maxLen]; omega) (by simp; omega) (by omega) ?_; intro v2 w2 hown2 hb2))
      all_goals
       rw [hexAt _ q0 q1,hexAt _ q2 q3] at hown2
       have hrow:=hstep _ _ _ HP.out hown2
       have hbel2:=hbel.trans hb2
       clear hown2 hb2
       go_wp2
       go_roundw
       case rel => exact ⟨k + 1,by omega,by go_num,hrow,hbel2⟩
       case measure => simp [intOf]; omega
     ·have hp : (prB s[k]).map bV = [.int .u8 bi]:=by
       unfold prB; rw [if_neg (by omega),if_neg (by omega),if_neg (by omega),if_neg (by omega),if_neg (by omega)]
       simp only [List.map_cons,List.map_nil,bV]
       rw [hbi]
      have HP:=Lib.hid hp
      clear hp c34 c92 c10 c9 c13
      go_wp2_with (first
       | (at_builtin; refine wp_appNb rfl _ _ 39 rfl w.heap.size 5 (.int .u8 0) 1 Tryz.underlying39 Tryz.info5 rfl _ _ _ 1 rfl (by exact hown) (by simp [Value.oneCell']) rfl _ rfl (by simp [maxLen]; omega) (by simp; omega) hbs ?_; intro v2 w2 hown2 hb2))
      have hrow:=hstep _ _ _ HP.out hown2
      have hbel2:=hbel.trans hb2
      clear hown2 hb2
      go_wp2
      go_roundw
      case rel => exact ⟨k + 1,by omega,by go_num,hrow,hbel2⟩
      case measure => simp [intOf]; omega
    ·have hkn : k = s.size:=by omega
     subst hkn
     have htk : s.data.toList.take s.size = s.data.toList:=List.take_of_length_le (by omega)
     rw [htk] at hown hlen
     rw [htk]
     have hx : (34 :: prAll s.data.toList).length <= 1000:=by simp; omega
     go_wp2_with (first
      | (at_builtin; refine wp_appNb rfl _ _ 39 rfl w.heap.size 5 (.int .u8 0) 1 Tryz.underlying39 Tryz.info5 rfl _ _ _ 1 rfl (by exact hown) (by simp [Value.oneCell']) rfl _ rfl (by simp [maxLen] at hx ⊢; omega) (by simp at hx ⊢; omega) hbs ?_; intro v2 w2 hown2 hb2))
     have hstr:=put_str (34 :: (prAll s.data.toList ++ [34])) (by simpa [bV] using hown2)
     first | rw [hstr] | skip
     go_wp2
     go_ret2
     exact ⟨rfl,hbel.trans hb2⟩
 ·have hE : PrintEnd s.data.toList = .returned (.tuple #[.string ⟨#[]⟩,.int .i64 3]):=by
   unfold PrintEnd prText prErr; rw [if_neg hu,if_neg hu]
  have huf : (runesL s.data.toList).isSome = false:=by simpa using hu
  rw [hE]
  have HU:=Lib.hid huf
  clear hE hu huf
  go_enter Tryz.func33,Tryz.ntmps33
  go_wp2_with (first
   | (go_at_call 57; refine (valid_any s _ hm).mono ?_; rintro e w1 ⟨rfl,hb1⟩; rw [HU.out]))
  go_ret2
  exact ⟨rfl,hb1⟩
end Go.Proofs.YtbnppjmmlfncmaaGreatDoor.Qt
namespace Go.Proofs.YtbnppjmmlfncmaaGreatDoor
open Go.RowKit Go.Maps
theorem begins_any (b : Int) (w : World) :
 Calls Tryz.prog 68 #[.int .u8 b] w fun e w' => e = .returned (.bool (firstB b)) /\ w = w':=by
 go_enter Tryz.func68,Tryz.ntmps68
 go_wp2
 all_goals go_ret
 all_goals refine ⟨ret_bool ?_,rfl⟩
 all_goals simp only [firstB]
 all_goals (rw [Bool.eq_iff_iff]; simp; try omega)
theorem later_of_first {b : Int} (h : firstB b = true) : laterB b = true:=by
 unfold firstB at h
 unfold laterB
 rw [decide_eq_true_iff] at h ⊢
 omega
theorem later_eq (b : Int) : laterB b = (firstB b || decide ((48 <= b /\ b <= 57) \/ b = 45 \/ b = 46)):=by
 unfold firstB laterB
 rw [Bool.eq_iff_iff]
 simp
 omega
theorem inloc_any (b : Int) (w : World) :
 Calls Tryz.prog 69 #[.int .u8 b] w fun e w' => e = .returned (.bool (laterB b)) /\ w = w':=by
 cases hf : firstB b
 all_goals have HF:=Lib.hid hf
 all_goals clear hf
 all_goals
  go_enter Tryz.func69,Tryz.ntmps69
  go_wp2_with (go_at_call 68; refine (begins_any _ _).mono ?_; rintro e w' ⟨rfl,rfl⟩; rw [HF.out])
 all_goals go_ret
 all_goals refine ⟨ret_bool ?_,rfl⟩
 all_goals rw [later_eq]
 all_goals first
  | (rw [HF.out]; simp only [Bool.true_or]; done)
  | (rw [HF.out,Bool.eq_iff_iff]; simp; try omega)
  | decide
theorem inspace_any (b : Int) (w : World) :
 Calls Tryz.prog 165 #[.int .u8 b] w fun e w' => e = .returned (.bool (!badB b)) /\ w = w':=by
 go_enter Tryz.func165,Tryz.ntmps165
 go_wp2
 all_goals try (go_step3; go_wp2)
 all_goals go_ret
 all_goals refine ⟨ret_bool ?_,rfl⟩
 all_goals simp only [beq_iff_eq,beq_eq_false_iff_ne] at *
 all_goals (rw [Bool.eq_iff_iff]; simp [badB]; try omega)
theorem local_eq (s : ByteArray) (h : 0 < s.size) (h16 : s.size <= 16) : localL s.data.toList = (firstB (s[0].toNat : Int) && s.data.toList.all (fun d => laterB (d.toNat : Int))):=by
 have hl : s.data.toList.length = s.size:=by simp
 have he:=bytes_cons s h
 rw [he] at hl ⊢
 generalize List.drop 1 s.data.toList = t at *
 simp only [List.length_cons] at hl
 simp only [localL,List.all_cons]
 rw [decide_eq_true (show t.length < 16 by omega),Bool.true_and]
 cases hf : firstB (s[0].toNat : Int)
 ·rfl
 ·rw [later_of_first hf,Bool.true_and,Bool.true_and]
theorem local_long (s : ByteArray) (h : s.size = 0 \/ 16 < s.size) : localL s.data.toList = false:=by
 have hl : s.data.toList.length = s.size:=by simp
 cases hb : localL s.data.toList with
 | false => rfl
 | true => have:=local_len hb; omega
theorem all_snoc {p : UInt8 -> Bool} {s : ByteArray} {k : Nat} (h : k < s.size) (ha : (s.data.toList.take k).all p = true) : (s.data.toList.take (k + 1)).all p = p s[k]:=by
 rw [take_snoc s k h,List.all_append,ha]
 simp
theorem all_break {p : UInt8 -> Bool} {s : ByteArray} {k : Nat} (h : k < s.size) (hp : p s[k] = false) : s.data.toList.all p = false:=by
 cases ha : s.data.toList.all p with
 | false => rfl
 | true =>
  rw [List.all_eq_true] at ha
  have:=ha s[k] (by simp [ByteArray.getElem_eq_getElem_data])
  rw [hp] at this
  cases this
theorem str_ne {s : ByteArray} (h : ¬ s.size = 0) : s.toList.isEmpty = false:=by
 rw [Lib.toList_data]
 cases hl : s.data.toList with
 | nil => have : s.data.toList.length = s.size:=by simp
          rw [hl] at this
          simp at this
          omega
 | cons c t => rfl
theorem str_ne2 {s : ByteArray} (h : ¬ s.size = 0) : ¬ s.toList = []:=by
 have:=str_ne h
 intro hc
 rw [hc] at this
 cases this
set_option maxHeartbeats 1000000 in
theorem local_any (s : ByteArray) (w : World) (hm : s.size <= 140737488355328) :
 Calls Tryz.prog 39 #[.string s] w fun e w' => e = .returned (.bool (localL s.data.toList)) /\ w = w':=by
 by_cases h0 : s.size = 0
 ·rw [local_long s (.inl h0)]
  have hs : s = ⟨#[]⟩:=ByteArray.ext (Array.eq_empty_of_size_eq_zero h0)
  subst hs
  go_enter Tryz.func39,Tryz.ntmps39
  go_wp2
  go_ret
  exact ⟨rfl,rfl⟩
 have hn1:=str_ne h0
 have hn2:=str_ne2 h0
 by_cases h16 : 16 < s.size
 ·rw [local_long s (.inr h16)]
  go_enter Tryz.func39,Tryz.ntmps39
  go_wp2
  go_ret
  exact ⟨rfl,rfl⟩
 have hp : 0 < s.size:=by omega
 have hR:=local_eq s hp (by omega)
 generalize hgl : localL s.data.toList = R at *
 have HR:=Lib.hid hR
 clear hR hgl h0
 rcases Bool.eq_false_or_eq_true (firstB (s[0].toNat : Int)) with hf | hf
 case' inl => have HF:=Lib.hid hf
 case' inr => have HF:=Lib.hid hf
 all_goals clear hf
 case inr =>
  go_enter Tryz.func39,Tryz.ntmps39
  go_wp2_with (go_at_call 68; refine (begins_any _ _).mono ?_; rintro e w' ⟨rfl,rfl⟩; rw [HF.out])
  go_ret
  refine ⟨ret_bool ?_,rfl⟩
  rw [HR.out,HF.out]
  rfl
 case inl =>
  go_enter Tryz.func39,Tryz.ntmps39
  go_wp2_with (go_at_call 68; refine (begins_any _ _).mono ?_; rintro e w' ⟨rfl,rfl⟩; rw [HF.out])
  go_loop [19] (fun i => ∃ k : Nat,k <= s.size /\ i = .int .i64 k /\ Hid ((s.data.toList.take k).all (fun d => laterB (d.toNat : Int)) = true)) (fun i => s.size - (intOf i).toNat)
  case atStart => exact ⟨0,Nat.zero_le _,rfl,Lib.hid rfl⟩
  case round =>
   obtain ⟨k,hk,rfl,HK⟩:=hrel
   by_cases hlt : k < s.size
   ·rcases Bool.eq_false_or_eq_true (laterB (s[k].toNat : Int)) with hl | hl
    case' inl => have HL:=Lib.hid hl
    case' inr => have HL:=Lib.hid hl
    all_goals clear hl
    case inr =>
     go_wp2_with (go_at_call 69; refine (inloc_any _ _).mono ?_; rintro e w' ⟨rfl,rfl⟩; rw [HL.out])
     go_ret
     refine ⟨ret_bool ?_,rfl⟩
     rw [HR.out,all_break hlt HL.out,Bool.and_false]
    case inl =>
     go_wp2_with (go_at_call 69; refine (inloc_any _ _).mono ?_; rintro e w' ⟨rfl,rfl⟩; rw [HL.out])
     go_round
     case rel => exact ⟨k + 1,by omega,by go_num,Lib.hid ((all_snoc hlt HK.out).trans HL.out)⟩
     case measure => simp [intOf]; omega
   ·go_wp2
    go_ret
    refine ⟨ret_bool ?_,rfl⟩
    have hK:=HK.out
    rw [List.take_of_length_le (by simp; omega)] at hK
    rw [HR.out,HF.out,hK]
    rfl
theorem space_long (s : ByteArray) (h : s.size = 0 \/ 48 < s.size) : spaceL s.data.toList = false:=by
 have hl : s.data.toList.length = s.size:=by simp
 cases hb : spaceL s.data.toList with
 | false => rfl
 | true => have:=space_len hb; omega
theorem space_eq (s : ByteArray) (h : 0 < s.size) (h48 : s.size <= 48) : spaceL s.data.toList = ((runesL s.data.toList).isSome && s.data.toList.all (fun d => !badB (d.toNat : Int))):=by
 have hl : s.data.toList.length = s.size:=by simp
 unfold spaceL
 rw [decide_eq_true (show 1 <= s.data.toList.length /\ s.data.toList.length <= 48 by omega),Bool.and_true]
set_option maxHeartbeats 1000000 in
theorem space_any (s : ByteArray) (w : World) (hm : s.size <= 140737488355328) :
 Calls Tryz.prog 148 #[.string s] w fun e w' => e = .returned (.bool (spaceL s.data.toList)) /\ Below w.heap.size w w':=by
 by_cases h0 : s.size = 0
 ·rw [space_long s (.inl h0)]
  have hs : s = ⟨#[]⟩:=ByteArray.ext (Array.eq_empty_of_size_eq_zero h0)
  subst hs
  go_enter Tryz.func148,Tryz.ntmps148
  go_wp2
  go_ret
  exact ⟨rfl,Below.refl _ _⟩
 have hn1:=str_ne h0
 have hn2:=str_ne2 h0
 by_cases h48 : 48 < s.size
 ·rw [space_long s (.inr h48)]
  go_enter Tryz.func148,Tryz.ntmps148
  go_wp2
  go_ret
  exact ⟨rfl,Below.refl _ _⟩
 have hR:=space_eq s (by omega) (by omega)
 generalize hgl : spaceL s.data.toList = R at *
 have HR:=Lib.hid hR
 clear hR hgl h0
 go_enter Tryz.func148,Tryz.ntmps148
 go_wp2_with (first
  | (go_at_call 101; refine (new_any _).mono ?_; rintro e w' ⟨rfl,rfl⟩))
 go_loopw [15] (fun i wr => ∃ (k : Nat) (l lo hi : Int),k <= s.size /\ i = .int .i64 k /\ ScanAt wr w.heap.size l lo hi /\ 0 <= l /\ l <= 3 /\ Below w.heap.size w wr /\ Hid (UtfAt s.data.toList k l lo hi) /\ Hid ((s.data.toList.take k).all (fun d => !badB (d.toNat : Int)) = true)) (fun i _ => s.size - (intOf i).toNat)
 case atStart => exact ⟨0,0,128,191,Nat.zero_le _,rfl,Blk.new w _ _,by decide,by decide,(Below.refl _ _).alloc (Nat.le_refl _) _,Lib.hid ⟨0,[],rfl⟩,Lib.hid rfl⟩
 case round =>
  obtain ⟨k,l,lo,hi,hk,rfl,hsc,h0,h3,hbel,HW,HK⟩:=hrel
  by_cases hlt : k < s.size
  ·have hle:=byte_le s[k]
   have HD:=Lib.hid (drop_cons s k hlt)
   have hr:=stL_range (b:=s[k].toNat) h0 h3
   obtain ⟨hr0,hr3⟩:=hr
   rcases Bool.eq_false_or_eq_true (badB (s[k].toNat : Int)) with hb | hb
   case' inl => have HB:=Lib.hid hb
   case' inr => have HB:=Lib.hid hb
   all_goals clear hb
   case inl =>
    have HX:=Lib.hid (all_break (p:=fun d => !badB (d.toNat : Int)) hlt (by rw [HB.out]; rfl))
    go_wp2_with (first
     | (go_at_call 165; refine (inspace_any _ _).mono ?_; rintro e w' ⟨rfl,rfl⟩; rw [HB.out]))
    go_ret
    refine ⟨ret_bool ?_,hbel⟩
    rw [HR.out,HX.out,Bool.and_false]
   case inr =>
    have HX:=Lib.hid (all_snoc (p:=fun d => !badB (d.toNat : Int)) hlt HK.out)
    go_wp2_with (first
     | (go_at_call 165; refine (inspace_any _ _).mono ?_; rintro e w' ⟨rfl,rfl⟩; rw [HB.out]))
    refine (step_any _ _ _ _ _ _ hsc h0 h3 (by omega) hle).mono ?_
    rintro e w1 ⟨rfl,hg1,hs1⟩
    have hbel1 : Below w.heap.size w w1:=below_only hbel hg1 hbel.size (Nat.le_refl _)
    clear hg1 hsc hbel
    generalize hO : stOk l lo hi s[k].toNat = O at *
    have HO:=Lib.hid hO
    clear hO
    cases O
    ·have HE:=Lib.hid (utf_bad HD.out HW.out HO.out)
     go_wp2
     go_ret
     refine ⟨ret_bool ?_,hbel1⟩
     rw [HR.out,HE.out,Bool.false_and]
    ·rw [if_pos rfl] at hs1
     go_wp2
     go_roundw
     case rel => exact ⟨k + 1,_,_,_,by omega,by go_num,hs1,hr0,hr3,hbel1,Lib.hid (utf_step HD.out HW.out HO.out),Lib.hid (HX.out.trans (by rw [HB.out]; rfl))⟩
     case measure => simp [intOf]; omega
  ·have hend:=utf_end (by simp; omega) HW.out
   have HE:=Lib.hid hend
   clear hend
   go_wp2_with (first
    | (go_at_call 109; refine (whole_any _ _ _ _ _ hsc).mono ?_; rintro e w' ⟨rfl,rfl⟩))
   go_ret
   refine ⟨ret_bool ?_,hbel⟩
   have hK:=HK.out
   rw [List.take_of_length_le (by simp; omega)] at hK
   rw [HR.out,HE.out,hK,Bool.and_true]
theorem clone_any (s : ByteArray) (w : World) (hm : s.size <= 140737488355328) :
 Calls Tryz.prog 41 #[.string s] w fun e w' => e = .returned (.string s) /\ Below w.heap.size w w':=by
 go_enter Tryz.func41,Tryz.ntmps41
 go_wp2_with (go_at_call 71; refine (Tryz.stringslite_Clone s w (by omega)).mono ?_; rintro e w' ⟨rfl,hb⟩)
 go_ret
 exact ⟨rfl,hb⟩
end Go.Proofs.YtbnppjmmlfncmaaGreatDoor
