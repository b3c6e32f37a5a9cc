/-
  The reference's parts, where the text begins with a minus: by program out of one text.
-/
import Derived.Test.YtbnppjmmlfncmaaGreatDoorIrA20
set_option maxRecDepth 100000
set_option linter.unusedVariables false
namespace Go.Proofs.YtbnppjmmlfncmaaGreatDoor.Nm
open Go.RowKit
set_option maxHeartbeats 1000000 in
theorem parts_1_bad0 (s : ByteArray) (w : World) (hs : s.size <= 140737488355328) (hpos : 0 < s.size) (h00 : ((s[0].toNat : Int) == 45) = true) (n : Nat) (HA : Hid (off s.data.toList = 1)) (HN : Hid (twN (s.data.toList.drop 1) = n)) (lenS : s.data.toList.length = s.size) (hz : n = 0) (hlt : 1 + n < s.size) :
 Calls Tryz.prog 179 #[.string s] w fun e w' => e = .returned (partsA (parts s.data.toList)) /\ ∃ n,w' = w.drewN n:=by
 have hfin:=fin_no (e_bad0 HA.out HN.out (by rw [lenS]; omega) hz)
 have HF:=Lib.hid hfin
 have HZ:=Lib.hid hz
 have hzb : ((n : Int) == 0) = true:=by rw [hz]; rfl
 clear hfin lenS hz
 go_enter Tryz.func179,Tryz.ntmps179
 go_wp2_with (fail)
 refine (run_any s 1 _ rfl _ (by omega) hs).mono ?_
 rintro e w' ⟨rfl,rfl⟩
 rw [HN.out]
 go_wp2
 (try simp only [Exit.inBlock,Exit.then]); refine bodyPost_ret (results_tmp5 rfl _ _ _) rfl ?_
 exact ⟨HF.out,0,rfl⟩
set_option maxHeartbeats 1000000 in
theorem parts_1_bad1 (s : ByteArray) (w : World) (hs : s.size <= 140737488355328) (hpos : 0 < s.size) (h00 : ((s[0].toNat : Int) == 45) = true) (n : Nat) (HA : Hid (off s.data.toList = 1)) (HN : Hid (twN (s.data.toList.drop 1) = n)) (lenS : s.data.toList.length = s.size) (h1 : 1 < n) (hle : 1 + n <= s.size) (hA : 1 < s.size) (hb : ((s[1]).toNat : Int) = 48) :
 Calls Tryz.prog 179 #[.string s] w fun e w' => e = .returned (partsA (parts s.data.toList)) /\ ∃ n,w' = w.drewN n:=by
 have hfin:=fin_no (e_bad1 HA.out HN.out h1 (by rw [b_at s 1 hA]; omega))
 have HF:=Lib.hid hfin
 have hzb : ((n : Int) == 0) = false:=by rw [beq_eq_false_iff_ne]; omega
 have hbb : (((s[1]).toNat : Int) == 48) = true:=by rw [hb]; rfl
 clear hfin lenS hb
 go_enter Tryz.func179,Tryz.ntmps179
 go_wp2_with (fail)
 refine (run_any s 1 _ rfl _ (by omega) hs).mono ?_
 rintro e w' ⟨rfl,rfl⟩
 rw [HN.out]
 go_wp2
 all_goals
  (try simp only [Exit.inBlock,Exit.then]); refine bodyPost_ret (results_tmp5 rfl _ _ _) rfl ?_
  exact ⟨HF.out,0,rfl⟩
def Not48_1 (s : ByteArray) (n : Nat) : Prop:=n <= 1 \/ (1 < n /\ ∃ h : 1 < s.size,((s[1].toNat : Int) == 48) = false)
theorem not48_1 {s : ByteArray} {n : Nat} (h : Not48_1 s n) : ¬ (1 < n /\ bAt s.data.toList 1 = 48):=by
 intro hh
 rcases h with h | ⟨_,h1,h2⟩
 ·omega
 ·have h3:=hh.2
  rw [b_at s 1 h1] at h3
  rw [beq_eq_false_iff_ne] at h2
  omega
set_option maxHeartbeats 1000000 in
theorem parts_1_end (s : ByteArray) (w : World) (hs : s.size <= 140737488355328) (hpos : 0 < s.size) (h00 : ((s[0].toNat : Int) == 45) = true) (n : Nat) (HA : Hid (off s.data.toList = 1)) (HN : Hid (twN (s.data.toList.drop 1) = n)) (lenS : s.data.toList.length = s.size) (h48 : Not48_1 s n) (he : 1 + n = s.size) :
 Calls Tryz.prog 179 #[.string s] w fun e w' => e = .returned (partsA (parts s.data.toList)) /\ ∃ n,w' = w.drewN n:=by
 have hfin:=e_end HA.out HN.out (by rw [lenS]; omega) (not48_1 h48)
 have HF:=Lib.hid hfin
 have hnl : ¬ (1 + n < s.size):=by omega
 have hle : s.size <= 1 + n:=by omega
 have hge : 1 + n <= s.size:=by omega
 have hzz : (((1 + n : Nat) : Int) == (s.size : Int)) = true:=by rw [he]; simp
 push_cast at hzz
 clear hfin lenS he
 rcases h48 with h48 | ⟨h48,h481,h482⟩
 all_goals
  go_enter Tryz.func179,Tryz.ntmps179
  go_wp2_with (fail)
  refine (run_any s 1 _ rfl _ (by omega) hs).mono ?_
  rintro e w' ⟨rfl,rfl⟩
  rw [HN.out]
  go_wp2
  all_goals
   (try simp only [Exit.inBlock,Exit.then]); refine bodyPost_ret (results_tmp5 rfl _ _ _) rfl ?_
   exact ⟨fin5 HF.out (ext_take s 1 n) (by rfl) (by rfl) (by rfl) (by simp),0,rfl⟩
set_option maxHeartbeats 4000000 in
theorem parts_1_go (s : ByteArray) (w : World) (hs : s.size <= 140737488355328) (hpos : 0 < s.size) (h00 : ((s[0].toNat : Int) == 45) = true) (n : Nat) (HA : Hid (off s.data.toList = 1)) (HN : Hid (twN (s.data.toList.drop 1) = n)) (lenS : s.data.toList.length = s.size) (h48 : Not48_1 s n) (h0 : 0 < n) (hlt : 1 + n < s.size) :
 Calls Tryz.prog 179 #[.string s] w fun e w' => e = .returned (partsA (parts s.data.toList)) /\ ∃ n,w' = w.drewN n:=by
 have h48':=not48_1 h48
 have hzb : ((n : Int) == 0) = false:=by rw [beq_eq_false_iff_ne]; omega
 have hzc : (((1 + n : Nat) : Int) == (s.size : Int)) = false:=by rw [beq_eq_false_iff_ne]; omega
 push_cast at hzc
 have hle:=tw_le (s.data.toList.drop (1 + n + 1))
 rw [List.length_drop,lenS] at hle
 generalize hm : twN (s.data.toList.drop (1 + n + 1)) = m at hle
 have HM:=Lib.hid hm
 have hgo : bAt s.data.toList (1 + n) ≠ 46 -> AtE s.data.toList (1 + n) ((s.data.toList.drop 1).take n) []:=fun hb => by
  have hh:=e_np_go HA.out HN.out h0 h48' (by rw [lenS]; omega) (by exact hb)
  exact hh
 have hpe : bAt s.data.toList (1 + n) = 46 -> 1 + n + 1 + m = s.size -> parts s.data.toList = ⟨(s.data.toList.drop 1).take n,(s.data.toList.drop (1 + n + 1)).take m,[],true,decide (0 < m)⟩:=fun hb h => by
  have hh:=e_pt_end (m:=m) HA.out HN.out h0 h48' (by rw [lenS]; omega) (by exact hb) (by exact hm) (by rw [lenS]; omega)
  exact hh
 have hpb : bAt s.data.toList (1 + n) = 46 -> 1 + n + 1 + m < s.size -> m = 0 -> parts s.data.toList = noParts:=fun hb h hz =>
  e_pt_bad (m:=m) HA.out HN.out h0 h48' (by rw [lenS]; omega) (by exact hb) (by exact hm) (by rw [lenS]; omega) hz
 have hpg : bAt s.data.toList (1 + n) = 46 -> 1 + n + 1 + m < s.size -> m ≠ 0 -> AtE s.data.toList (1 + n + 1 + m) ((s.data.toList.drop 1).take n) ((s.data.toList.drop (1 + n + 1)).take m):=fun hb h hz => by
  have hh:=e_pt_go (m:=m) HA.out HN.out h0 h48' (by rw [lenS]; omega) (by exact hb) (by exact hm) (by rw [lenS]; omega) hz
  exact hh
 rw [b_at s _ hlt] at hgo hpe hpb hpg
 have HGO:=Lib.hid hgo
 have HPE:=Lib.hid hpe
 have HPB:=Lib.hid hpb
 have HPG:=Lib.hid hpg
 have LS:=Lib.hid lenS
 clear h48' hm hgo hpe hpb hpg lenS
 rcases h48 with h48 | ⟨h48,h481,h482⟩
 all_goals
  go_enter Tryz.func179,Tryz.ntmps179
  go_wp2_with (fail)
  refine (run_any s 1 _ rfl _ (by omega) hs).mono ?_
  rintro e w' ⟨rfl,rfl⟩
  rw [HN.out]
  go_upto_if 64 with (fail)
  go_cut [7,10] (fun s7 s10 wx => ∃ (K : Nat) (F : ByteArray),s7 = .int .i64 K /\ s10 = .string F /\ wx = w /\ K < s.size /\ Hid (AtE s.data.toList K ((s.data.toList.drop 1).take n) F.data.toList))
  case first =>
   generalize hB : (s[1 + n].toNat : Int) = B
   have HB:=Lib.hid hB
   clear hB
   by_cases hb : B = 46
   ·have hbb : (B == 46) = true:=by rw [hb]; rfl
    have hbn : s[1 + n].toNat = 46:=by have:=HB.out; omega
    have HBN:=Lib.hid hbn
    clear hb hbn
    go_wp2_with (fail)
    refine (run_any s (1 + n + 1) _ (by omega) _ (by omega) hs).mono ?_
    rintro e w' ⟨rfl,rfl⟩
    rw [HM.out]
    by_cases hK : 1 + n + 1 + m = s.size
    ·have hF:=HPE.out HBN.out hK
     have HF:=Lib.hid hF
     have hzd : (((1 + n + 1 + m : Nat) : Int) == (s.size : Int)) = true:=by rw [hK]; simp
     push_cast at hzd
     have hK1 : 1 + n + 1 + m <= s.size:=by omega
     clear hF hK
     go_wp2
     (try simp only [Exit.inBlock,Exit.then]); refine bodyPost_ret (results_tmp5 rfl _ _ _) rfl ?_
     exact ⟨fin5 HF.out (ext_take s 1 n) (ext_take s (1 + n + 1) m) (by rfl) (by rfl) (by simp),0,rfl⟩
    ·have hK1 : 1 + n + 1 + m < s.size:=by omega
     have hzd : (((1 + n + 1 + m : Nat) : Int) == (s.size : Int)) = false:=by rw [beq_eq_false_iff_ne]; omega
     push_cast at hzd
     clear hK
     by_cases hz : m = 0
     ·have hF:=fin_no (HPB.out HBN.out hK1 hz)
      have HF:=Lib.hid hF
      have hze : ((m : Int) == 0) = true:=by rw [hz]; rfl
      clear hF hz
      go_wp2
      (try simp only [Exit.inBlock,Exit.then]); refine bodyPost_ret (results_tmp5 rfl _ _ _) rfl ?_
      exact ⟨HF.out,0,rfl⟩
     ·have hF:=HPG.out HBN.out hK1 hz
      have HF:=Lib.hid hF
      have hze : ((m : Int) == 0) = false:=by rw [beq_eq_false_iff_ne]; omega
      clear hF hz
      go_wp2
      go_meet
      exact ⟨1 + n + 1 + m,_,by go_num,rfl,rfl,hK1,Lib.hid (by rw [ext_take]; exact HF.out)⟩
   ·have hbb : (B == 46) = false:=by rw [beq_eq_false_iff_ne]; exact hb
    have hF:=HGO.out (by have:=HB.out; omega)
    have HF:=Lib.hid hF
    clear hb hF
    go_wp2
    go_meet
    exact ⟨1 + n,_,by go_num,rfl,rfl,hlt,Lib.hid (by exact HF.out)⟩
  case rest =>
   obtain ⟨K,F,rfl,rfl,rfl,hKlt,HAT⟩:=hcut
   have lenS:=LS.out
   by_cases e101 : (s[K].toNat : Int) = 101
   ·have hne1 : ((s[K].toNat : Int) != 101) = false:=by rw [e101]; rfl
    by_cases hK1 : K + 1 < s.size
    ·by_cases p43 : (s[K + 1].toNat : Int) = 43
     ·have q43 : ((s[K + 1].toNat : Int) == 43) = true:=by rw [p43]; rfl
      have hsg : sgn (s.data.toList.drop (K + 1)) = s.data.toList.drop (K + 2):=sgn_at (by rw [lenS]; exact .inl ⟨rfl,hK1,.inl (by rw [b_at s _ hK1]; omega)⟩)
      have hq0:=tw_le (s.data.toList.drop (K + 2))
      rw [List.length_drop,lenS] at hq0
      generalize hq : twN (s.data.toList.drop (K + 2)) = q at hq0
      have HQ:=Lib.hid hq
      have hee : bAt s.data.toList K = 101 \/ bAt s.data.toList K = 69:=by rw [b_at s K hKlt]; omega
      by_cases hend : K + 2 + q < s.size
      ·have hF:=fin_no (e_x_bad HAT.out hee hsg hq (by rw [lenS]; exact hend))
       have HF:=Lib.hid hF
       clear hF hsg hq hee lenS e101 p43
       go_wp2_with (fail)
       refine (run_any s (K + 2) _ (by omega) _ (by omega) hs).mono ?_
       rintro e w' ⟨rfl,rfl⟩
       rw [HQ.out]
       go_wp2
       (try simp only [Exit.inBlock,Exit.then]); refine bodyPost_ret (results_tmp5 rfl _ _ _) rfl ?_
       exact ⟨HF.out,0,rfl⟩
      ·have hF:=e_x_ok HAT.out hee hsg hq (by rw [lenS]; omega)
       have HF:=Lib.hid hF
       have hend2 : s.size <= K + 2 + q:=by omega
       have hk1 : K + 1 <= s.size:=by omega
       have hk1i : (K : Int) + 1 <= s.size:=by omega
       clear hF hsg hq hee hend lenS e101 p43
       go_wp2_with (fail)
       refine (run_any s (K + 2) _ (by omega) _ (by omega) hs).mono ?_
       rintro e w' ⟨rfl,rfl⟩
       rw [HQ.out]
       go_wp2
       go_quiet (fail)
       go_wp2
       (try simp only [Exit.inBlock,Exit.then]); refine bodyPost_ret (results_tmp5 rfl _ _ _) rfl ?_
       exact ⟨fin5 HF.out (ext_take s 1 n) (by rfl) (ext_drop s (K + 1)) (by rfl) (by simp),_,rfl⟩
     ·have q43 : ((s[K + 1].toNat : Int) == 43) = false:=by rw [beq_eq_false_iff_ne]; exact p43
      by_cases p45 : (s[K + 1].toNat : Int) = 45
      ·have q45 : ((s[K + 1].toNat : Int) == 45) = true:=by rw [p45]; rfl
       have hsg : sgn (s.data.toList.drop (K + 1)) = s.data.toList.drop (K + 2):=sgn_at (by rw [lenS]; exact .inl ⟨rfl,hK1,.inr (by rw [b_at s _ hK1]; omega)⟩)
       have hq0:=tw_le (s.data.toList.drop (K + 2))
       rw [List.length_drop,lenS] at hq0
       generalize hq : twN (s.data.toList.drop (K + 2)) = q at hq0
       have HQ:=Lib.hid hq
       have hee : bAt s.data.toList K = 101 \/ bAt s.data.toList K = 69:=by rw [b_at s K hKlt]; omega
       by_cases hend : K + 2 + q < s.size
       ·have hF:=fin_no (e_x_bad HAT.out hee hsg hq (by rw [lenS]; exact hend))
        have HF:=Lib.hid hF
        clear hF hsg hq hee lenS e101 p43 p45
        go_wp2_with (fail)
        refine (run_any s (K + 2) _ (by omega) _ (by omega) hs).mono ?_
        rintro e w' ⟨rfl,rfl⟩
        rw [HQ.out]
        go_wp2
        (try simp only [Exit.inBlock,Exit.then]); refine bodyPost_ret (results_tmp5 rfl _ _ _) rfl ?_
        exact ⟨HF.out,0,rfl⟩
       ·have hF:=e_x_ok HAT.out hee hsg hq (by rw [lenS]; omega)
        have HF:=Lib.hid hF
        have hend2 : s.size <= K + 2 + q:=by omega
        have hk1 : K + 1 <= s.size:=by omega
        have hk1i : (K : Int) + 1 <= s.size:=by omega
        clear hF hsg hq hee hend lenS e101 p43 p45
        go_wp2_with (fail)
        refine (run_any s (K + 2) _ (by omega) _ (by omega) hs).mono ?_
        rintro e w' ⟨rfl,rfl⟩
        rw [HQ.out]
        go_wp2
        go_quiet (fail)
        go_wp2
        (try simp only [Exit.inBlock,Exit.then]); refine bodyPost_ret (results_tmp5 rfl _ _ _) rfl ?_
        exact ⟨fin5 HF.out (ext_take s 1 n) (by rfl) (ext_drop s (K + 1)) (by rfl) (by simp),_,rfl⟩
      ·have q45 : ((s[K + 1].toNat : Int) == 45) = false:=by rw [beq_eq_false_iff_ne]; exact p45
       have hsg : sgn (s.data.toList.drop (K + 1)) = s.data.toList.drop (K + 1):=sgn_at (by exact .inr ⟨rfl,.inr ⟨by rw [b_at s _ hK1]; omega,by rw [b_at s _ hK1]; omega⟩⟩)
       have hq0:=tw_le (s.data.toList.drop (K + 1))
       rw [List.length_drop,lenS] at hq0
       generalize hq : twN (s.data.toList.drop (K + 1)) = q at hq0
       have HQ:=Lib.hid hq
       have hee : bAt s.data.toList K = 101 \/ bAt s.data.toList K = 69:=by rw [b_at s K hKlt]; omega
       by_cases hend : K + 1 + q < s.size
       ·have hF:=fin_no (e_x_bad HAT.out hee hsg hq (by rw [lenS]; exact hend))
        have HF:=Lib.hid hF
        clear hF hsg hq hee lenS e101 p43 p45
        go_wp2_with (fail)
        refine (run_any s (K + 1) _ (by omega) _ (by omega) hs).mono ?_
        rintro e w' ⟨rfl,rfl⟩
        rw [HQ.out]
        go_wp2
        (try simp only [Exit.inBlock,Exit.then]); refine bodyPost_ret (results_tmp5 rfl _ _ _) rfl ?_
        exact ⟨HF.out,0,rfl⟩
       ·have hF:=e_x_ok HAT.out hee hsg hq (by rw [lenS]; omega)
        have HF:=Lib.hid hF
        have hend2 : s.size <= K + 1 + q:=by omega
        have hk1 : K + 1 <= s.size:=by omega
        have hk1i : (K : Int) + 1 <= s.size:=by omega
        clear hF hsg hq hee hend lenS e101 p43 p45
        go_wp2_with (fail)
        refine (run_any s (K + 1) _ (by omega) _ (by omega) hs).mono ?_
        rintro e w' ⟨rfl,rfl⟩
        rw [HQ.out]
        go_wp2
        go_quiet (fail)
        go_wp2
        (try simp only [Exit.inBlock,Exit.then]); refine bodyPost_ret (results_tmp5 rfl _ _ _) rfl ?_
        exact ⟨fin5 HF.out (ext_take s 1 n) (by rfl) (ext_drop s (K + 1)) (by rfl) (by simp),_,rfl⟩
    ·have hK2 : s.size <= K + 1:=by omega
     have hsg : sgn (s.data.toList.drop (K + 1)) = s.data.toList.drop (K + 1):=sgn_at (by rw [lenS]; exact .inr ⟨rfl,.inl hK2⟩)
     have hq0:=tw_le (s.data.toList.drop (K + 1))
     rw [List.length_drop,lenS] at hq0
     generalize hq : twN (s.data.toList.drop (K + 1)) = q at hq0
     have HQ:=Lib.hid hq
     have hee : bAt s.data.toList K = 101 \/ bAt s.data.toList K = 69:=by rw [b_at s K hKlt]; omega
     by_cases hend : K + 1 + q < s.size
     ·exact absurd hend (by omega)
     ·have hF:=e_x_ok HAT.out hee hsg hq (by rw [lenS]; omega)
      have HF:=Lib.hid hF
      have hend2 : s.size <= K + 1 + q:=by omega
      have hk1 : K + 1 <= s.size:=by omega
      have hk1i : (K : Int) + 1 <= s.size:=by omega
      clear hF hsg hq hee hend lenS e101 hK1
      go_wp2_with (fail)
      refine (run_any s (K + 1) _ (by omega) _ (by omega) hs).mono ?_
      rintro e w' ⟨rfl,rfl⟩
      rw [HQ.out]
      go_wp2
      go_quiet (fail)
      go_wp2
      (try simp only [Exit.inBlock,Exit.then]); refine bodyPost_ret (results_tmp5 rfl _ _ _) rfl ?_
      exact ⟨fin5 HF.out (ext_take s 1 n) (by rfl) (ext_drop s (K + 1)) (by rfl) (by simp),_,rfl⟩
   ·have hne1 : ((s[K].toNat : Int) != 101) = true:=by rw [bne_iff_ne]; exact e101
    by_cases e69 : (s[K].toNat : Int) = 69
    ·have hne2 : ((s[K].toNat : Int) != 69) = false:=by rw [e69]; rfl
     by_cases hK1 : K + 1 < s.size
     ·by_cases p43 : (s[K + 1].toNat : Int) = 43
      ·have q43 : ((s[K + 1].toNat : Int) == 43) = true:=by rw [p43]; rfl
       have hsg : sgn (s.data.toList.drop (K + 1)) = s.data.toList.drop (K + 2):=sgn_at (by rw [lenS]; exact .inl ⟨rfl,hK1,.inl (by rw [b_at s _ hK1]; omega)⟩)
       have hq0:=tw_le (s.data.toList.drop (K + 2))
       rw [List.length_drop,lenS] at hq0
       generalize hq : twN (s.data.toList.drop (K + 2)) = q at hq0
       have HQ:=Lib.hid hq
       have hee : bAt s.data.toList K = 101 \/ bAt s.data.toList K = 69:=by rw [b_at s K hKlt]; omega
       by_cases hend : K + 2 + q < s.size
       ·have hF:=fin_no (e_x_bad HAT.out hee hsg hq (by rw [lenS]; exact hend))
        have HF:=Lib.hid hF
        clear hF hsg hq hee lenS e101 e69 p43
        go_wp2_with (fail)
        refine (run_any s (K + 2) _ (by omega) _ (by omega) hs).mono ?_
        rintro e w' ⟨rfl,rfl⟩
        rw [HQ.out]
        go_wp2
        (try simp only [Exit.inBlock,Exit.then]); refine bodyPost_ret (results_tmp5 rfl _ _ _) rfl ?_
        exact ⟨HF.out,0,rfl⟩
       ·have hF:=e_x_ok HAT.out hee hsg hq (by rw [lenS]; omega)
        have HF:=Lib.hid hF
        have hend2 : s.size <= K + 2 + q:=by omega
        have hk1 : K + 1 <= s.size:=by omega
        have hk1i : (K : Int) + 1 <= s.size:=by omega
        clear hF hsg hq hee hend lenS e101 e69 p43
        go_wp2_with (fail)
        refine (run_any s (K + 2) _ (by omega) _ (by omega) hs).mono ?_
        rintro e w' ⟨rfl,rfl⟩
        rw [HQ.out]
        go_wp2
        go_quiet (fail)
        go_wp2
        (try simp only [Exit.inBlock,Exit.then]); refine bodyPost_ret (results_tmp5 rfl _ _ _) rfl ?_
        exact ⟨fin5 HF.out (ext_take s 1 n) (by rfl) (ext_drop s (K + 1)) (by rfl) (by simp),_,rfl⟩
      ·have q43 : ((s[K + 1].toNat : Int) == 43) = false:=by rw [beq_eq_false_iff_ne]; exact p43
       by_cases p45 : (s[K + 1].toNat : Int) = 45
       ·have q45 : ((s[K + 1].toNat : Int) == 45) = true:=by rw [p45]; rfl
        have hsg : sgn (s.data.toList.drop (K + 1)) = s.data.toList.drop (K + 2):=sgn_at (by rw [lenS]; exact .inl ⟨rfl,hK1,.inr (by rw [b_at s _ hK1]; omega)⟩)
        have hq0:=tw_le (s.data.toList.drop (K + 2))
        rw [List.length_drop,lenS] at hq0
        generalize hq : twN (s.data.toList.drop (K + 2)) = q at hq0
        have HQ:=Lib.hid hq
        have hee : bAt s.data.toList K = 101 \/ bAt s.data.toList K = 69:=by rw [b_at s K hKlt]; omega
        by_cases hend : K + 2 + q < s.size
        ·have hF:=fin_no (e_x_bad HAT.out hee hsg hq (by rw [lenS]; exact hend))
         have HF:=Lib.hid hF
         clear hF hsg hq hee lenS e101 e69 p43 p45
         go_wp2_with (fail)
         refine (run_any s (K + 2) _ (by omega) _ (by omega) hs).mono ?_
         rintro e w' ⟨rfl,rfl⟩
         rw [HQ.out]
         go_wp2
         (try simp only [Exit.inBlock,Exit.then]); refine bodyPost_ret (results_tmp5 rfl _ _ _) rfl ?_
         exact ⟨HF.out,0,rfl⟩
        ·have hF:=e_x_ok HAT.out hee hsg hq (by rw [lenS]; omega)
         have HF:=Lib.hid hF
         have hend2 : s.size <= K + 2 + q:=by omega
         have hk1 : K + 1 <= s.size:=by omega
         have hk1i : (K : Int) + 1 <= s.size:=by omega
         clear hF hsg hq hee hend lenS e101 e69 p43 p45
         go_wp2_with (fail)
         refine (run_any s (K + 2) _ (by omega) _ (by omega) hs).mono ?_
         rintro e w' ⟨rfl,rfl⟩
         rw [HQ.out]
         go_wp2
         go_quiet (fail)
         go_wp2
         (try simp only [Exit.inBlock,Exit.then]); refine bodyPost_ret (results_tmp5 rfl _ _ _) rfl ?_
         exact ⟨fin5 HF.out (ext_take s 1 n) (by rfl) (ext_drop s (K + 1)) (by rfl) (by simp),_,rfl⟩
       ·have q45 : ((s[K + 1].toNat : Int) == 45) = false:=by rw [beq_eq_false_iff_ne]; exact p45
        have hsg : sgn (s.data.toList.drop (K + 1)) = s.data.toList.drop (K + 1):=sgn_at (by exact .inr ⟨rfl,.inr ⟨by rw [b_at s _ hK1]; omega,by rw [b_at s _ hK1]; omega⟩⟩)
        have hq0:=tw_le (s.data.toList.drop (K + 1))
        rw [List.length_drop,lenS] at hq0
        generalize hq : twN (s.data.toList.drop (K + 1)) = q at hq0
        have HQ:=Lib.hid hq
        have hee : bAt s.data.toList K = 101 \/ bAt s.data.toList K = 69:=by rw [b_at s K hKlt]; omega
        by_cases hend : K + 1 + q < s.size
        ·have hF:=fin_no (e_x_bad HAT.out hee hsg hq (by rw [lenS]; exact hend))
         have HF:=Lib.hid hF
         clear hF hsg hq hee lenS e101 e69 p43 p45
         go_wp2_with (fail)
         refine (run_any s (K + 1) _ (by omega) _ (by omega) hs).mono ?_
         rintro e w' ⟨rfl,rfl⟩
         rw [HQ.out]
         go_wp2
         (try simp only [Exit.inBlock,Exit.then]); refine bodyPost_ret (results_tmp5 rfl _ _ _) rfl ?_
         exact ⟨HF.out,0,rfl⟩
        ·have hF:=e_x_ok HAT.out hee hsg hq (by rw [lenS]; omega)
         have HF:=Lib.hid hF
         have hend2 : s.size <= K + 1 + q:=by omega
         have hk1 : K + 1 <= s.size:=by omega
         have hk1i : (K : Int) + 1 <= s.size:=by omega
         clear hF hsg hq hee hend lenS e101 e69 p43 p45
         go_wp2_with (fail)
         refine (run_any s (K + 1) _ (by omega) _ (by omega) hs).mono ?_
         rintro e w' ⟨rfl,rfl⟩
         rw [HQ.out]
         go_wp2
         go_quiet (fail)
         go_wp2
         (try simp only [Exit.inBlock,Exit.then]); refine bodyPost_ret (results_tmp5 rfl _ _ _) rfl ?_
         exact ⟨fin5 HF.out (ext_take s 1 n) (by rfl) (ext_drop s (K + 1)) (by rfl) (by simp),_,rfl⟩
     ·have hK2 : s.size <= K + 1:=by omega
      have hsg : sgn (s.data.toList.drop (K + 1)) = s.data.toList.drop (K + 1):=sgn_at (by rw [lenS]; exact .inr ⟨rfl,.inl hK2⟩)
      have hq0:=tw_le (s.data.toList.drop (K + 1))
      rw [List.length_drop,lenS] at hq0
      generalize hq : twN (s.data.toList.drop (K + 1)) = q at hq0
      have HQ:=Lib.hid hq
      have hee : bAt s.data.toList K = 101 \/ bAt s.data.toList K = 69:=by rw [b_at s K hKlt]; omega
      by_cases hend : K + 1 + q < s.size
      ·exact absurd hend (by omega)
      ·have hF:=e_x_ok HAT.out hee hsg hq (by rw [lenS]; omega)
       have HF:=Lib.hid hF
       have hend2 : s.size <= K + 1 + q:=by omega
       have hk1 : K + 1 <= s.size:=by omega
       have hk1i : (K : Int) + 1 <= s.size:=by omega
       clear hF hsg hq hee hend lenS e101 e69 hK1
       go_wp2_with (fail)
       refine (run_any s (K + 1) _ (by omega) _ (by omega) hs).mono ?_
       rintro e w' ⟨rfl,rfl⟩
       rw [HQ.out]
       go_wp2
       go_quiet (fail)
       go_wp2
       (try simp only [Exit.inBlock,Exit.then]); refine bodyPost_ret (results_tmp5 rfl _ _ _) rfl ?_
       exact ⟨fin5 HF.out (ext_take s 1 n) (by rfl) (ext_drop s (K + 1)) (by rfl) (by simp),_,rfl⟩
    ·have hne2 : ((s[K].toNat : Int) != 69) = true:=by rw [bne_iff_ne]; exact e69
     have hF:=fin_no (e_x_no HAT.out (by rw [b_at s K hKlt]; omega) (by rw [b_at s K hKlt]; omega))
     have HF:=Lib.hid hF
     clear hF e101 e69 lenS
     go_wp2
     (try simp only [Exit.inBlock,Exit.then]); refine bodyPost_ret (results_tmp5 rfl _ _ _) rfl ?_
     exact ⟨HF.out,0,rfl⟩
end Go.Proofs.YtbnppjmmlfncmaaGreatDoor.Nm
