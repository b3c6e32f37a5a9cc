/-
  The reference's parts, where the text begins without one: by program out of one text.
  The reference's parts and May, whole; the walk of NumMay.
  A normal form is read as itself; what follows for the order.
  The reference's digits and Form: their contracts.
-/
import Derived.Test.YtbnppjmmlfncmaaGreatDoorIrA20
import Derived.Test.YtbnppjmmlfncmaaGreatDoorIrA21
import Derived.Test.YtbnppjmmlfncmaaGreatDoorIrA12
import Derived.Test.YtbnppjmmlfncmaaGreatDoorIrA11
set_option maxRecDepth 100000
set_option linter.unusedVariables false
namespace Go.Proofs.YtbnppjmmlfncmaaGreatDoor.Nm
open Go.RowKit
set_option maxHeartbeats 1000000 in
theorem parts_0_bad0 (s : ByteArray) (w : World) (hs : s.size <= 140737488355328) (h00 : ∀ h : 0 < s.size,((s[0].toNat : Int) == 45) = false) (n : Nat) (HA : Hid (off s.data.toList = 0)) (HN : Hid (twN (s.data.toList.drop 0) = n)) (lenS : s.data.toList.length = s.size) (hz : n = 0) (hlt : n < s.size) :
 Calls Tryz.prog 179 #[.string s] w fun e w' => e = .returned (partsA (parts s.data.toList)) /\ ∃ n,w' = w.drewN n:=by
 have hfin:=fin_no (e_bad0 HA.out HN.out (by rw [lenS]; omega) hz)
 have HF:=Lib.hid hfin
 have hp0 : 0 < s.size:=by omega
 have h00:=h00 hp0
 have HZ:=Lib.hid hz
 have hzb : ((n : Int) == 0) = true:=by rw [hz]; rfl
 clear hfin lenS hz
 go_enter Tryz.func179,Tryz.ntmps179
 go_wp2_with (fail)
 refine (run_any s 0 _ rfl _ (by omega) hs).mono ?_
 rintro e w' ⟨rfl,rfl⟩
 rw [HN.out]
 go_wp2
 (try simp only [Exit.inBlock,Exit.then]); refine bodyPost_ret (results_tmp5 rfl _ _ _) rfl ?_
 exact ⟨HF.out,0,rfl⟩
set_option maxHeartbeats 1000000 in
theorem parts_0_bad1 (s : ByteArray) (w : World) (hs : s.size <= 140737488355328) (h00 : ∀ h : 0 < s.size,((s[0].toNat : Int) == 45) = false) (n : Nat) (HA : Hid (off s.data.toList = 0)) (HN : Hid (twN (s.data.toList.drop 0) = n)) (lenS : s.data.toList.length = s.size) (h1 : 1 < n) (hle : n <= s.size) (hA : 0 < s.size) (hb : ((s[0]).toNat : Int) = 48) :
 Calls Tryz.prog 179 #[.string s] w fun e w' => e = .returned (partsA (parts s.data.toList)) /\ ∃ n,w' = w.drewN n:=by
 have hfin:=fin_no (e_bad1 HA.out HN.out h1 (by rw [b_at s 0 hA]; omega))
 have HF:=Lib.hid hfin
 have h00:=h00 hA
 have hzb : ((n : Int) == 0) = false:=by rw [beq_eq_false_iff_ne]; omega
 have hbb : (((s[0]).toNat : Int) == 48) = true:=by rw [hb]; rfl
 clear hfin lenS hb
 go_enter Tryz.func179,Tryz.ntmps179
 go_wp2_with (fail)
 refine (run_any s 0 _ rfl _ (by omega) hs).mono ?_
 rintro e w' ⟨rfl,rfl⟩
 rw [HN.out]
 go_wp2
 all_goals
  (try simp only [Exit.inBlock,Exit.then]); refine bodyPost_ret (results_tmp5 rfl _ _ _) rfl ?_
  exact ⟨HF.out,0,rfl⟩
def Not48_0 (s : ByteArray) (n : Nat) : Prop:=n <= 1 \/ (1 < n /\ ∃ h : 0 < s.size,((s[0].toNat : Int) == 48) = false)
theorem not48_0 {s : ByteArray} {n : Nat} (h : Not48_0 s n) : ¬ (1 < n /\ bAt s.data.toList 0 = 48):=by
 intro hh
 rcases h with h | ⟨_,h1,h2⟩
 ·omega
 ·have h3:=hh.2
  rw [b_at s 0 h1] at h3
  rw [beq_eq_false_iff_ne] at h2
  omega
set_option maxHeartbeats 1000000 in
theorem parts_0_end (s : ByteArray) (w : World) (hs : s.size <= 140737488355328) (h00 : ∀ h : 0 < s.size,((s[0].toNat : Int) == 45) = false) (n : Nat) (HA : Hid (off s.data.toList = 0)) (HN : Hid (twN (s.data.toList.drop 0) = n)) (lenS : s.data.toList.length = s.size) (h48 : Not48_0 s n) (he : n = s.size) :
 Calls Tryz.prog 179 #[.string s] w fun e w' => e = .returned (partsA (parts s.data.toList)) /\ ∃ n,w' = w.drewN n:=by
 have hfin:=e_end HA.out HN.out (by rw [lenS]; omega) (not48_0 h48)
 have HF:=Lib.hid hfin
 have hnl : ¬ (n < s.size):=by omega
 have hle : s.size <= n:=by omega
 have hge : n <= s.size:=by omega
 have hzz : (((n : Nat) : Int) == (s.size : Int)) = true:=by rw [he]; simp
 push_cast at hzz
 clear hfin lenS he
 rcases h48 with h48 | ⟨h48,h481,h482⟩
 all_goals
  by_cases hp : 0 < s.size
  ·have h00:=h00 hp
   go_enter Tryz.func179,Tryz.ntmps179
   go_wp2_with (fail)
   refine (run_any s 0 _ rfl _ (by omega) hs).mono ?_
   rintro e w' ⟨rfl,rfl⟩
   rw [HN.out]
   go_wp2
   all_goals
    (try simp only [Exit.inBlock,Exit.then]); refine bodyPost_ret (results_tmp5 rfl _ _ _) rfl ?_
    exact ⟨fin5 HF.out (by have hh:=ext_take s 0 n; rw [Nat.zero_add] at hh; exact hh) (by rfl) (by rfl) (by rfl) (by simp),0,rfl⟩
  ·clear h00
   first
    | exact absurd (by omega : 0 < s.size) hp
    | skip
   all_goals
    go_enter Tryz.func179,Tryz.ntmps179
    go_wp2_with (fail)
    refine (run_any s 0 _ rfl _ (by omega) hs).mono ?_
    rintro e w' ⟨rfl,rfl⟩
    rw [HN.out]
    go_wp2
    all_goals
     (try simp only [Exit.inBlock,Exit.then]); refine bodyPost_ret (results_tmp5 rfl _ _ _) rfl ?_
     exact ⟨fin5 HF.out (by have hh:=ext_take s 0 n; rw [Nat.zero_add] at hh; exact hh) (by rfl) (by rfl) (by rfl) (by simp),0,rfl⟩
set_option maxHeartbeats 4000000 in
theorem parts_0_go (s : ByteArray) (w : World) (hs : s.size <= 140737488355328) (h00 : ∀ h : 0 < s.size,((s[0].toNat : Int) == 45) = false) (n : Nat) (HA : Hid (off s.data.toList = 0)) (HN : Hid (twN (s.data.toList.drop 0) = n)) (lenS : s.data.toList.length = s.size) (h48 : Not48_0 s n) (h0 : 0 < n) (hlt : n < s.size) :
 Calls Tryz.prog 179 #[.string s] w fun e w' => e = .returned (partsA (parts s.data.toList)) /\ ∃ n,w' = w.drewN n:=by
 have h48':=not48_0 h48
 have hp0 : 0 < s.size:=by omega
 have h00:=h00 hp0
 have hzb : ((n : Int) == 0) = false:=by rw [beq_eq_false_iff_ne]; omega
 have hzc : (((n : Nat) : Int) == (s.size : Int)) = false:=by rw [beq_eq_false_iff_ne]; omega
 push_cast at hzc
 have hle:=tw_le (s.data.toList.drop (n + 1))
 rw [List.length_drop,lenS] at hle
 generalize hm : twN (s.data.toList.drop (n + 1)) = m at hle
 have HM:=Lib.hid hm
 have hgo : bAt s.data.toList (n) ≠ 46 -> AtE s.data.toList (n) ((s.data.toList.drop 0).take n) []:=fun hb => by
  have hh:=e_np_go HA.out HN.out h0 h48' (by rw [lenS]; omega) (by rw [Nat.zero_add]; exact hb)
  rw [Nat.zero_add] at hh; exact hh
 have hpe : bAt s.data.toList (n) = 46 -> n + 1 + m = s.size -> parts s.data.toList = ⟨(s.data.toList.drop 0).take n,(s.data.toList.drop (n + 1)).take m,[],true,decide (0 < m)⟩:=fun hb h => by
  have hh:=e_pt_end (m:=m) HA.out HN.out h0 h48' (by rw [lenS]; omega) (by rw [Nat.zero_add]; exact hb) (by rw [Nat.zero_add]; exact hm) (by rw [lenS]; omega)
  rw [Nat.zero_add] at hh; exact hh
 have hpb : bAt s.data.toList (n) = 46 -> n + 1 + m < s.size -> m = 0 -> parts s.data.toList = noParts:=fun hb h hz =>
  e_pt_bad (m:=m) HA.out HN.out h0 h48' (by rw [lenS]; omega) (by rw [Nat.zero_add]; exact hb) (by rw [Nat.zero_add]; exact hm) (by rw [lenS]; omega) hz
 have hpg : bAt s.data.toList (n) = 46 -> n + 1 + m < s.size -> m ≠ 0 -> AtE s.data.toList (n + 1 + m) ((s.data.toList.drop 0).take n) ((s.data.toList.drop (n + 1)).take m):=fun hb h hz => by
  have hh:=e_pt_go (m:=m) HA.out HN.out h0 h48' (by rw [lenS]; omega) (by rw [Nat.zero_add]; exact hb) (by rw [Nat.zero_add]; exact hm) (by rw [lenS]; omega) hz
  rw [Nat.zero_add] at hh; exact hh
 rw [b_at s _ hlt] at hgo hpe hpb hpg
 have HGO:=Lib.hid hgo
 have HPE:=Lib.hid hpe
 have HPB:=Lib.hid hpb
 have HPG:=Lib.hid hpg
 have LS:=Lib.hid lenS
 clear h48' hm hgo hpe hpb hpg lenS
 rcases h48 with h48 | ⟨h48,h481,h482⟩
 all_goals
  go_enter Tryz.func179,Tryz.ntmps179
  go_wp2_with (fail)
  refine (run_any s 0 _ rfl _ (by omega) hs).mono ?_
  rintro e w' ⟨rfl,rfl⟩
  rw [HN.out]
  go_upto_if 64 with (fail)
  go_cut [7,10] (fun s7 s10 wx => ∃ (K : Nat) (F : ByteArray),s7 = .int .i64 K /\ s10 = .string F /\ wx = w /\ K < s.size /\ Hid (AtE s.data.toList K ((s.data.toList.drop 0).take n) F.data.toList))
  case first =>
   generalize hB : (s[n].toNat : Int) = B
   have HB:=Lib.hid hB
   clear hB
   by_cases hb : B = 46
   ·have hbb : (B == 46) = true:=by rw [hb]; rfl
    have hbn : s[n].toNat = 46:=by have:=HB.out; omega
    have HBN:=Lib.hid hbn
    clear hb hbn
    go_wp2_with (fail)
    refine (run_any s (n + 1) _ (by omega) _ (by omega) hs).mono ?_
    rintro e w' ⟨rfl,rfl⟩
    rw [HM.out]
    by_cases hK : n + 1 + m = s.size
    ·have hF:=HPE.out HBN.out hK
     have HF:=Lib.hid hF
     have hzd : (((n + 1 + m : Nat) : Int) == (s.size : Int)) = true:=by rw [hK]; simp
     push_cast at hzd
     have hK1 : n + 1 + m <= s.size:=by omega
     clear hF hK
     go_wp2
     (try simp only [Exit.inBlock,Exit.then]); refine bodyPost_ret (results_tmp5 rfl _ _ _) rfl ?_
     exact ⟨fin5 HF.out (by have hh:=ext_take s 0 n; rw [Nat.zero_add] at hh; exact hh) (ext_take s (n + 1) m) (by rfl) (by rfl) (by simp),0,rfl⟩
    ·have hK1 : n + 1 + m < s.size:=by omega
     have hzd : (((n + 1 + m : Nat) : Int) == (s.size : Int)) = false:=by rw [beq_eq_false_iff_ne]; omega
     push_cast at hzd
     clear hK
     by_cases hz : m = 0
     ·have hF:=fin_no (HPB.out HBN.out hK1 hz)
      have HF:=Lib.hid hF
      have hze : ((m : Int) == 0) = true:=by rw [hz]; rfl
      clear hF hz
      go_wp2
      (try simp only [Exit.inBlock,Exit.then]); refine bodyPost_ret (results_tmp5 rfl _ _ _) rfl ?_
      exact ⟨HF.out,0,rfl⟩
     ·have hF:=HPG.out HBN.out hK1 hz
      have HF:=Lib.hid hF
      have hze : ((m : Int) == 0) = false:=by rw [beq_eq_false_iff_ne]; omega
      clear hF hz
      go_wp2
      go_meet
      exact ⟨n + 1 + m,_,by go_num,rfl,rfl,hK1,Lib.hid (by rw [ext_take]; exact HF.out)⟩
   ·have hbb : (B == 46) = false:=by rw [beq_eq_false_iff_ne]; exact hb
    have hF:=HGO.out (by have:=HB.out; omega)
    have HF:=Lib.hid hF
    clear hb hF
    go_wp2
    go_meet
    exact ⟨n,_,by go_num,rfl,rfl,hlt,Lib.hid (by exact HF.out)⟩
  case rest =>
   obtain ⟨K,F,rfl,rfl,rfl,hKlt,HAT⟩:=hcut
   have lenS:=LS.out
   by_cases e101 : (s[K].toNat : Int) = 101
   ·have hne1 : ((s[K].toNat : Int) != 101) = false:=by rw [e101]; rfl
    by_cases hK1 : K + 1 < s.size
    ·by_cases p43 : (s[K + 1].toNat : Int) = 43
     ·have q43 : ((s[K + 1].toNat : Int) == 43) = true:=by rw [p43]; rfl
      have hsg : sgn (s.data.toList.drop (K + 1)) = s.data.toList.drop (K + 2):=sgn_at (by rw [lenS]; exact .inl ⟨rfl,hK1,.inl (by rw [b_at s _ hK1]; omega)⟩)
      have hq0:=tw_le (s.data.toList.drop (K + 2))
      rw [List.length_drop,lenS] at hq0
      generalize hq : twN (s.data.toList.drop (K + 2)) = q at hq0
      have HQ:=Lib.hid hq
      have hee : bAt s.data.toList K = 101 \/ bAt s.data.toList K = 69:=by rw [b_at s K hKlt]; omega
      by_cases hend : K + 2 + q < s.size
      ·have hF:=fin_no (e_x_bad HAT.out hee hsg hq (by rw [lenS]; exact hend))
       have HF:=Lib.hid hF
       clear hF hsg hq hee lenS e101 p43
       go_wp2_with (fail)
       refine (run_any s (K + 2) _ (by omega) _ (by omega) hs).mono ?_
       rintro e w' ⟨rfl,rfl⟩
       rw [HQ.out]
       go_wp2
       (try simp only [Exit.inBlock,Exit.then]); refine bodyPost_ret (results_tmp5 rfl _ _ _) rfl ?_
       exact ⟨HF.out,0,rfl⟩
      ·have hF:=e_x_ok HAT.out hee hsg hq (by rw [lenS]; omega)
       have HF:=Lib.hid hF
       have hend2 : s.size <= K + 2 + q:=by omega
       have hk1 : K + 1 <= s.size:=by omega
       have hk1i : (K : Int) + 1 <= s.size:=by omega
       clear hF hsg hq hee hend lenS e101 p43
       go_wp2_with (fail)
       refine (run_any s (K + 2) _ (by omega) _ (by omega) hs).mono ?_
       rintro e w' ⟨rfl,rfl⟩
       rw [HQ.out]
       go_wp2
       go_quiet (fail)
       go_wp2
       (try simp only [Exit.inBlock,Exit.then]); refine bodyPost_ret (results_tmp5 rfl _ _ _) rfl ?_
       exact ⟨fin5 HF.out (by have hh:=ext_take s 0 n; rw [Nat.zero_add] at hh; exact hh) (by rfl) (ext_drop s (K + 1)) (by rfl) (by simp),_,rfl⟩
     ·have q43 : ((s[K + 1].toNat : Int) == 43) = false:=by rw [beq_eq_false_iff_ne]; exact p43
      by_cases p45 : (s[K + 1].toNat : Int) = 45
      ·have q45 : ((s[K + 1].toNat : Int) == 45) = true:=by rw [p45]; rfl
       have hsg : sgn (s.data.toList.drop (K + 1)) = s.data.toList.drop (K + 2):=sgn_at (by rw [lenS]; exact .inl ⟨rfl,hK1,.inr (by rw [b_at s _ hK1]; omega)⟩)
       have hq0:=tw_le (s.data.toList.drop (K + 2))
       rw [List.length_drop,lenS] at hq0
       generalize hq : twN (s.data.toList.drop (K + 2)) = q at hq0
       have HQ:=Lib.hid hq
       have hee : bAt s.data.toList K = 101 \/ bAt s.data.toList K = 69:=by rw [b_at s K hKlt]; omega
       by_cases hend : K + 2 + q < s.size
       ·have hF:=fin_no (e_x_bad HAT.out hee hsg hq (by rw [lenS]; exact hend))
        have HF:=Lib.hid hF
        clear hF hsg hq hee lenS e101 p43 p45
        go_wp2_with (fail)
        refine (run_any s (K + 2) _ (by omega) _ (by omega) hs).mono ?_
        rintro e w' ⟨rfl,rfl⟩
        rw [HQ.out]
        go_wp2
        (try simp only [Exit.inBlock,Exit.then]); refine bodyPost_ret (results_tmp5 rfl _ _ _) rfl ?_
        exact ⟨HF.out,0,rfl⟩
       ·have hF:=e_x_ok HAT.out hee hsg hq (by rw [lenS]; omega)
        have HF:=Lib.hid hF
        have hend2 : s.size <= K + 2 + q:=by omega
        have hk1 : K + 1 <= s.size:=by omega
        have hk1i : (K : Int) + 1 <= s.size:=by omega
        clear hF hsg hq hee hend lenS e101 p43 p45
        go_wp2_with (fail)
        refine (run_any s (K + 2) _ (by omega) _ (by omega) hs).mono ?_
        rintro e w' ⟨rfl,rfl⟩
        rw [HQ.out]
        go_wp2
        go_quiet (fail)
        go_wp2
        (try simp only [Exit.inBlock,Exit.then]); refine bodyPost_ret (results_tmp5 rfl _ _ _) rfl ?_
        exact ⟨fin5 HF.out (by have hh:=ext_take s 0 n; rw [Nat.zero_add] at hh; exact hh) (by rfl) (ext_drop s (K + 1)) (by rfl) (by simp),_,rfl⟩
      ·have q45 : ((s[K + 1].toNat : Int) == 45) = false:=by rw [beq_eq_false_iff_ne]; exact p45
       have hsg : sgn (s.data.toList.drop (K + 1)) = s.data.toList.drop (K + 1):=sgn_at (by exact .inr ⟨rfl,.inr ⟨by rw [b_at s _ hK1]; omega,by rw [b_at s _ hK1]; omega⟩⟩)
       have hq0:=tw_le (s.data.toList.drop (K + 1))
       rw [List.length_drop,lenS] at hq0
       generalize hq : twN (s.data.toList.drop (K + 1)) = q at hq0
       have HQ:=Lib.hid hq
       have hee : bAt s.data.toList K = 101 \/ bAt s.data.toList K = 69:=by rw [b_at s K hKlt]; omega
       by_cases hend : K + 1 + q < s.size
       ·have hF:=fin_no (e_x_bad HAT.out hee hsg hq (by rw [lenS]; exact hend))
        have HF:=Lib.hid hF
        clear hF hsg hq hee lenS e101 p43 p45
        go_wp2_with (fail)
        refine (run_any s (K + 1) _ (by omega) _ (by omega) hs).mono ?_
        rintro e w' ⟨rfl,rfl⟩
        rw [HQ.out]
        go_wp2
        (try simp only [Exit.inBlock,Exit.then]); refine bodyPost_ret (results_tmp5 rfl _ _ _) rfl ?_
        exact ⟨HF.out,0,rfl⟩
       ·have hF:=e_x_ok HAT.out hee hsg hq (by rw [lenS]; omega)
        have HF:=Lib.hid hF
        have hend2 : s.size <= K + 1 + q:=by omega
        have hk1 : K + 1 <= s.size:=by omega
        have hk1i : (K : Int) + 1 <= s.size:=by omega
        clear hF hsg hq hee hend lenS e101 p43 p45
        go_wp2_with (fail)
        refine (run_any s (K + 1) _ (by omega) _ (by omega) hs).mono ?_
        rintro e w' ⟨rfl,rfl⟩
        rw [HQ.out]
        go_wp2
        go_quiet (fail)
        go_wp2
        (try simp only [Exit.inBlock,Exit.then]); refine bodyPost_ret (results_tmp5 rfl _ _ _) rfl ?_
        exact ⟨fin5 HF.out (by have hh:=ext_take s 0 n; rw [Nat.zero_add] at hh; exact hh) (by rfl) (ext_drop s (K + 1)) (by rfl) (by simp),_,rfl⟩
    ·have hK2 : s.size <= K + 1:=by omega
     have hsg : sgn (s.data.toList.drop (K + 1)) = s.data.toList.drop (K + 1):=sgn_at (by rw [lenS]; exact .inr ⟨rfl,.inl hK2⟩)
     have hq0:=tw_le (s.data.toList.drop (K + 1))
     rw [List.length_drop,lenS] at hq0
     generalize hq : twN (s.data.toList.drop (K + 1)) = q at hq0
     have HQ:=Lib.hid hq
     have hee : bAt s.data.toList K = 101 \/ bAt s.data.toList K = 69:=by rw [b_at s K hKlt]; omega
     by_cases hend : K + 1 + q < s.size
     ·exact absurd hend (by omega)
     ·have hF:=e_x_ok HAT.out hee hsg hq (by rw [lenS]; omega)
      have HF:=Lib.hid hF
      have hend2 : s.size <= K + 1 + q:=by omega
      have hk1 : K + 1 <= s.size:=by omega
      have hk1i : (K : Int) + 1 <= s.size:=by omega
      clear hF hsg hq hee hend lenS e101 hK1
      go_wp2_with (fail)
      refine (run_any s (K + 1) _ (by omega) _ (by omega) hs).mono ?_
      rintro e w' ⟨rfl,rfl⟩
      rw [HQ.out]
      go_wp2
      go_quiet (fail)
      go_wp2
      (try simp only [Exit.inBlock,Exit.then]); refine bodyPost_ret (results_tmp5 rfl _ _ _) rfl ?_
      exact ⟨fin5 HF.out (by have hh:=ext_take s 0 n; rw [Nat.zero_add] at hh; exact hh) (by rfl) (ext_drop s (K + 1)) (by rfl) (by simp),_,rfl⟩
   ·have hne1 : ((s[K].toNat : Int) != 101) = true:=by rw [bne_iff_ne]; exact e101
    by_cases e69 : (s[K].toNat : Int) = 69
    ·have hne2 : ((s[K].toNat : Int) != 69) = false:=by rw [e69]; rfl
     by_cases hK1 : K + 1 < s.size
     ·by_cases p43 : (s[K + 1].toNat : Int) = 43
      ·have q43 : ((s[K + 1].toNat : Int) == 43) = true:=by rw [p43]; rfl
       have hsg : sgn (s.data.toList.drop (K + 1)) = s.data.toList.drop (K + 2):=sgn_at (by rw [lenS]; exact .inl ⟨rfl,hK1,.inl (by rw [b_at s _ hK1]; omega)⟩)
       have hq0:=tw_le (s.data.toList.drop (K + 2))
       rw [List.length_drop,lenS] at hq0
       generalize hq : twN (s.data.toList.drop (K + 2)) = q at hq0
       have HQ:=Lib.hid hq
       have hee : bAt s.data.toList K = 101 \/ bAt s.data.toList K = 69:=by rw [b_at s K hKlt]; omega
       by_cases hend : K + 2 + q < s.size
       ·have hF:=fin_no (e_x_bad HAT.out hee hsg hq (by rw [lenS]; exact hend))
        have HF:=Lib.hid hF
        clear hF hsg hq hee lenS e101 e69 p43
        go_wp2_with (fail)
        refine (run_any s (K + 2) _ (by omega) _ (by omega) hs).mono ?_
        rintro e w' ⟨rfl,rfl⟩
        rw [HQ.out]
        go_wp2
        (try simp only [Exit.inBlock,Exit.then]); refine bodyPost_ret (results_tmp5 rfl _ _ _) rfl ?_
        exact ⟨HF.out,0,rfl⟩
       ·have hF:=e_x_ok HAT.out hee hsg hq (by rw [lenS]; omega)
        have HF:=Lib.hid hF
        have hend2 : s.size <= K + 2 + q:=by omega
        have hk1 : K + 1 <= s.size:=by omega
        have hk1i : (K : Int) + 1 <= s.size:=by omega
        clear hF hsg hq hee hend lenS e101 e69 p43
        go_wp2_with (fail)
        refine (run_any s (K + 2) _ (by omega) _ (by omega) hs).mono ?_
        rintro e w' ⟨rfl,rfl⟩
        rw [HQ.out]
        go_wp2
        go_quiet (fail)
        go_wp2
        (try simp only [Exit.inBlock,Exit.then]); refine bodyPost_ret (results_tmp5 rfl _ _ _) rfl ?_
        exact ⟨fin5 HF.out (by have hh:=ext_take s 0 n; rw [Nat.zero_add] at hh; exact hh) (by rfl) (ext_drop s (K + 1)) (by rfl) (by simp),_,rfl⟩
      ·have q43 : ((s[K + 1].toNat : Int) == 43) = false:=by rw [beq_eq_false_iff_ne]; exact p43
       by_cases p45 : (s[K + 1].toNat : Int) = 45
       ·have q45 : ((s[K + 1].toNat : Int) == 45) = true:=by rw [p45]; rfl
        have hsg : sgn (s.data.toList.drop (K + 1)) = s.data.toList.drop (K + 2):=sgn_at (by rw [lenS]; exact .inl ⟨rfl,hK1,.inr (by rw [b_at s _ hK1]; omega)⟩)
        have hq0:=tw_le (s.data.toList.drop (K + 2))
        rw [List.length_drop,lenS] at hq0
        generalize hq : twN (s.data.toList.drop (K + 2)) = q at hq0
        have HQ:=Lib.hid hq
        have hee : bAt s.data.toList K = 101 \/ bAt s.data.toList K = 69:=by rw [b_at s K hKlt]; omega
        by_cases hend : K + 2 + q < s.size
        ·have hF:=fin_no (e_x_bad HAT.out hee hsg hq (by rw [lenS]; exact hend))
         have HF:=Lib.hid hF
         clear hF hsg hq hee lenS e101 e69 p43 p45
         go_wp2_with (fail)
         refine (run_any s (K + 2) _ (by omega) _ (by omega) hs).mono ?_
         rintro e w' ⟨rfl,rfl⟩
         rw [HQ.out]
         go_wp2
         (try simp only [Exit.inBlock,Exit.then]); refine bodyPost_ret (results_tmp5 rfl _ _ _) rfl ?_
         exact ⟨HF.out,0,rfl⟩
        ·have hF:=e_x_ok HAT.out hee hsg hq (by rw [lenS]; omega)
         have HF:=Lib.hid hF
         have hend2 : s.size <= K + 2 + q:=by omega
         have hk1 : K + 1 <= s.size:=by omega
         have hk1i : (K : Int) + 1 <= s.size:=by omega
         clear hF hsg hq hee hend lenS e101 e69 p43 p45
         go_wp2_with (fail)
         refine (run_any s (K + 2) _ (by omega) _ (by omega) hs).mono ?_
         rintro e w' ⟨rfl,rfl⟩
         rw [HQ.out]
         go_wp2
         go_quiet (fail)
         go_wp2
         (try simp only [Exit.inBlock,Exit.then]); refine bodyPost_ret (results_tmp5 rfl _ _ _) rfl ?_
         exact ⟨fin5 HF.out (by have hh:=ext_take s 0 n; rw [Nat.zero_add] at hh; exact hh) (by rfl) (ext_drop s (K + 1)) (by rfl) (by simp),_,rfl⟩
       ·have q45 : ((s[K + 1].toNat : Int) == 45) = false:=by rw [beq_eq_false_iff_ne]; exact p45
        have hsg : sgn (s.data.toList.drop (K + 1)) = s.data.toList.drop (K + 1):=sgn_at (by exact .inr ⟨rfl,.inr ⟨by rw [b_at s _ hK1]; omega,by rw [b_at s _ hK1]; omega⟩⟩)
        have hq0:=tw_le (s.data.toList.drop (K + 1))
        rw [List.length_drop,lenS] at hq0
        generalize hq : twN (s.data.toList.drop (K + 1)) = q at hq0
        have HQ:=Lib.hid hq
        have hee : bAt s.data.toList K = 101 \/ bAt s.data.toList K = 69:=by rw [b_at s K hKlt]; omega
        by_cases hend : K + 1 + q < s.size
        ·have hF:=fin_no (e_x_bad HAT.out hee hsg hq (by rw [lenS]; exact hend))
         have HF:=Lib.hid hF
         clear hF hsg hq hee lenS e101 e69 p43 p45
         go_wp2_with (fail)
         refine (run_any s (K + 1) _ (by omega) _ (by omega) hs).mono ?_
         rintro e w' ⟨rfl,rfl⟩
         rw [HQ.out]
         go_wp2
         (try simp only [Exit.inBlock,Exit.then]); refine bodyPost_ret (results_tmp5 rfl _ _ _) rfl ?_
         exact ⟨HF.out,0,rfl⟩
        ·have hF:=e_x_ok HAT.out hee hsg hq (by rw [lenS]; omega)
         have HF:=Lib.hid hF
         have hend2 : s.size <= K + 1 + q:=by omega
         have hk1 : K + 1 <= s.size:=by omega
         have hk1i : (K : Int) + 1 <= s.size:=by omega
         clear hF hsg hq hee hend lenS e101 e69 p43 p45
         go_wp2_with (fail)
         refine (run_any s (K + 1) _ (by omega) _ (by omega) hs).mono ?_
         rintro e w' ⟨rfl,rfl⟩
         rw [HQ.out]
         go_wp2
         go_quiet (fail)
         go_wp2
         (try simp only [Exit.inBlock,Exit.then]); refine bodyPost_ret (results_tmp5 rfl _ _ _) rfl ?_
         exact ⟨fin5 HF.out (by have hh:=ext_take s 0 n; rw [Nat.zero_add] at hh; exact hh) (by rfl) (ext_drop s (K + 1)) (by rfl) (by simp),_,rfl⟩
     ·have hK2 : s.size <= K + 1:=by omega
      have hsg : sgn (s.data.toList.drop (K + 1)) = s.data.toList.drop (K + 1):=sgn_at (by rw [lenS]; exact .inr ⟨rfl,.inl hK2⟩)
      have hq0:=tw_le (s.data.toList.drop (K + 1))
      rw [List.length_drop,lenS] at hq0
      generalize hq : twN (s.data.toList.drop (K + 1)) = q at hq0
      have HQ:=Lib.hid hq
      have hee : bAt s.data.toList K = 101 \/ bAt s.data.toList K = 69:=by rw [b_at s K hKlt]; omega
      by_cases hend : K + 1 + q < s.size
      ·exact absurd hend (by omega)
      ·have hF:=e_x_ok HAT.out hee hsg hq (by rw [lenS]; omega)
       have HF:=Lib.hid hF
       have hend2 : s.size <= K + 1 + q:=by omega
       have hk1 : K + 1 <= s.size:=by omega
       have hk1i : (K : Int) + 1 <= s.size:=by omega
       clear hF hsg hq hee hend lenS e101 e69 hK1
       go_wp2_with (fail)
       refine (run_any s (K + 1) _ (by omega) _ (by omega) hs).mono ?_
       rintro e w' ⟨rfl,rfl⟩
       rw [HQ.out]
       go_wp2
       go_quiet (fail)
       go_wp2
       (try simp only [Exit.inBlock,Exit.then]); refine bodyPost_ret (results_tmp5 rfl _ _ _) rfl ?_
       exact ⟨fin5 HF.out (by have hh:=ext_take s 0 n; rw [Nat.zero_add] at hh; exact hh) (by rfl) (ext_drop s (K + 1)) (by rfl) (by simp),_,rfl⟩
    ·have hne2 : ((s[K].toNat : Int) != 69) = true:=by rw [bne_iff_ne]; exact e69
     have hF:=fin_no (e_x_no HAT.out (by rw [b_at s K hKlt]; omega) (by rw [b_at s K hKlt]; omega))
     have HF:=Lib.hid hF
     clear hF e101 e69 lenS
     go_wp2
     (try simp only [Exit.inBlock,Exit.then]); refine bodyPost_ret (results_tmp5 rfl _ _ _) rfl ?_
     exact ⟨HF.out,0,rfl⟩
theorem parts_any (s : ByteArray) (w : World) (hs : s.size <= 140737488355328) :
 Calls Tryz.prog 179 #[.string s] w fun e w' => e = .returned (partsA (parts s.data.toList)) /\ ∃ n,w' = w.drewN n:=by
 have lenS : s.data.toList.length = s.size:=by simp
 by_cases hn : ∃ h : 0 < s.size,s[0].toNat = 45
 ·obtain ⟨hpos,hb⟩:=hn
  have h00 : ((s[0].toNat : Int) == 45) = true:=by rw [beq_iff_eq]; omega
  have HA : Hid (off s.data.toList = 1):=Lib.hid (off_one (by rw [lenS]; exact hpos) (by rw [b_at s 0 hpos]; exact hb))
  have hle:=tw_le (s.data.toList.drop 1)
  rw [List.length_drop,lenS] at hle
  generalize hn : twN (s.data.toList.drop 1) = n at hle
  have HN:=Lib.hid hn
  by_cases h1 : 1 + n < s.size /\ n = 0
  ·exact parts_1_bad0 s w hs hpos h00 n HA HN lenS h1.2 h1.1
  ·by_cases h2 : 1 < n /\ ∃ h : 1 < s.size,s[1].toNat = 48
   ·obtain ⟨h2,hA,hb⟩:=h2
    exact parts_1_bad1 s w hs hpos h00 n HA HN lenS h2 (by omega) hA (by omega)
   ·have h48 : Not48_1 s n:=by
     rcases Nat.lt_or_ge 1 n with hh | hh
     ·have hA : 1 < s.size:=by omega
      exact .inr ⟨hh,hA,by rw [beq_eq_false_iff_ne]; intro hc; exact h2 ⟨hh,hA,by omega⟩⟩
     ·exact .inl hh
    by_cases h3 : 1 + n = s.size
    ·exact parts_1_end s w hs hpos h00 n HA HN lenS h48 h3
    ·exact parts_1_go s w hs hpos h00 n HA HN lenS h48 (by omega) (by omega)
 ·have h00 : ∀ h : 0 < s.size,((s[0].toNat : Int) == 45) = false:=fun h => by rw [beq_eq_false_iff_ne]; intro hc; exact hn ⟨h,by omega⟩
  have HA : Hid (off s.data.toList = 0):=Lib.hid (off_zero (fun h => by rw [lenS] at h; rw [b_at s 0 h]; exact fun hc => hn ⟨h,hc⟩))
  have hle:=tw_le (s.data.toList.drop 0)
  rw [List.length_drop,lenS] at hle
  generalize hn : twN (s.data.toList.drop 0) = n at hle
  have HN:=Lib.hid hn
  by_cases h1 : n < s.size /\ n = 0
  ·exact parts_0_bad0 s w hs h00 n HA HN lenS h1.2 h1.1
  ·by_cases h2 : 1 < n /\ ∃ h : 0 < s.size,s[0].toNat = 48
   ·obtain ⟨h2,hA,hb⟩:=h2
    exact parts_0_bad1 s w hs h00 n HA HN lenS h2 (by omega) hA (by omega)
   ·have h48 : Not48_0 s n:=by
     rcases Nat.lt_or_ge 1 n with hh | hh
     ·have hA : 0 < s.size:=by omega
      exact .inr ⟨hh,hA,by rw [beq_eq_false_iff_ne]; intro hc; exact h2 ⟨hh,hA,by omega⟩⟩
     ·exact .inl hh
    by_cases h3 : n = s.size
    ·exact parts_0_end s w hs h00 n HA HN lenS h48 h3
    ·exact parts_0_go s w hs h00 n HA HN lenS h48 (by omega) (by omega)
theorem allD_dig {l : List UInt8} (h : isB l = true) : (allD l).all dig = true:=by
 obtain ⟨pt,et,hs⟩:=shape_of h
 unfold allD
 rw [List.all_append,hs.whole,hs.part]
 rfl
theorem dw_head (l : List UInt8) (c : UInt8) : (l.dropWhile (· == c)).head? ≠ some c:=by
 induction l with
 | nil => simp
 | cons b l ih =>
  rw [List.dropWhile_cons]
  by_cases h : b = c
  ·simp [h]; simpa using ih
  ·have : (b == c) = false:=by simpa using h
   rw [this]
   simpa using h
theorem trimR_last (l : List UInt8) (c : UInt8) : (Lib.trimRightB l c).getLast? ≠ some c:=by
 unfold Lib.trimRightB
 rw [List.getLast?_reverse]
 exact dw_head _ _
theorem trimL_last (l : List UInt8) (c : UInt8) (h : l.getLast? ≠ some c) : (Lib.trimLeftB l c).getLast? ≠ some c:=by
 unfold Lib.trimLeftB
 have hs:=List.dropWhile_suffix (l:=l) (· == c)
 obtain ⟨t,ht⟩:=hs
 generalize l.dropWhile (· == c) = d at *
 cases d with
 | nil => simp
 | cons x d =>
  rw [<- ht,List.getLast?_append] at h
  simpa using h
theorem all_sub {l r : List UInt8} (h : l.all dig = true) (hr : ∀ x ∈ r,x ∈ l) : r.all dig = true :=
 List.all_eq_true.2 fun x hx => List.all_eq_true.1 h x (hr x hx)
theorem digs_can {l : List UInt8} (h : isB l = true) : (digsD l).head? ≠ some 48 /\ (digsD l).getLast? ≠ some 48 /\ (digsD l).all dig = true:=by
 refine ⟨dw_head _ _,trimL_last _ _ (trimR_last _ _),all_sub (allD_dig h) fun x hx => ?_⟩
 have h1 : x ∈ rightD l:=(List.dropWhile_suffix _).sublist.subset hx
 unfold rightD Lib.trimRightB at h1
 have h2:=(List.dropWhile_suffix _).sublist.subset (List.mem_reverse.1 h1)
 simpa using h2
theorem can_of {l : List UInt8} {v : Val} (h : readL l = some v) : CanV v:=by
 unfold readL readE at h
 split at h
 ·rename_i hc
  split at h
  ·injection h with h
   have hd:=digs_can hc.1
   rw [<- h]
   unfold valE
   split
   ·exact ⟨fun _ => ⟨rfl,rfl⟩,by simp,by simp,rfl⟩
   ·rename_i hne
    exact ⟨fun hcc => absurd hcc hne,hd.1,hd.2.1,hd.2.2⟩
  ·cases h
 ·cases h
theorem digit_ofNat (n : Nat) (h : n < 10) : (UInt8.ofNat (48 + n)).toNat = 48 + n:=UInt8.toNat_ofNat_of_lt' (show 48 + n < 256 by omega)
theorem neg_digits {l : List UInt8} (h : l.all dig = true) : negL l = false:=by
 cases l with
 | nil => rfl
 | cons b l =>
  rw [List.all_cons,Bool.and_eq_true] at h
  have:=dig_range h.1
  exact decide_eq_false (by omega)
theorem size_of (l : List UInt8) : (⟨l.toArray⟩ : ByteArray).size = l.length:=by simp [ByteArray.size]
def strSize : Value -> Nat | .string s => s.size | _ => 0
def preD (u : Nat) (l : List UInt8) : List UInt8:=if u = 0 /\ l ≠ [] then l else Lib.decDigits u ++ l
theorem preD_step (u : Nat) (l : List UInt8) (h : 0 < u \/ l = []) : preD u l = preD (u / 10) (UInt8.ofNat (48 + u % 10) :: l):=by
 unfold preD
 rw [if_neg (by rintro ⟨h1,h2⟩; rcases h with h | h; omega; exact h2 h)]
 by_cases hu : u < 10
 ·rw [if_pos ⟨by omega,by simp⟩,Lib.decDigits,dif_pos hu,Nat.mod_eq_of_lt hu]
  rfl
 ·rw [if_neg (by rintro ⟨h1,_⟩; omega),Lib.decDigits,dif_neg hu]
  simp
theorem one_app (a : UInt8) (l : List UInt8) : (⟨#[a]⟩ ++ ⟨l.toArray⟩ : ByteArray) = ⟨(a :: l).toArray⟩:=by
 apply ByteArray.ext
 simp [ByteArray.data_append]
theorem ofNat_48 (k : Nat) : 48 + UInt8.ofNat k = UInt8.ofNat (48 + k):=by
 rw [UInt8.ofNat_add]
 rfl
theorem app_48 (k : Nat) (l : List UInt8) : (⟨#[48 + UInt8.ofNat k]⟩ ++ ⟨l.toArray⟩ : ByteArray) = ⟨(UInt8.ofNat (48 + k) :: l).toArray⟩:=by
 rw [ofNat_48,one_app]
set_option maxHeartbeats 1000000 in
theorem rdigits_any (N : Nat) (i : Int) (hi : i = (N : Int)) (w : World) (hN : N <= 4611686018427387904) :
 Calls Tryz.prog 180 #[.int .i64 i] w fun e w' => e = .returned (.string ⟨(Lib.decDigits N).toArray⟩) /\ Below w.heap.size w w':=by
 subst hi
 go_enter Tryz.func180,Tryz.ntmps180
 go_wp2
 go_loopw [0,3] (fun n o wr => ∃ (u : Nat) (l : List UInt8),n = .int .i64 u /\ o = .string ⟨l.toArray⟩ /\ u <= N /\ l.length + u <= N + 1 /\ Below w.heap.size w wr /\ Hid (Lib.decDigits N = preD u l)) (fun n o _ => 2 * (intOf n).toNat + (1 - strSize o))
 case atStart => exact ⟨N,[],rfl,rfl,Nat.le_refl _,by simp,Below.refl _ _,Lib.hid (by unfold preD; simp)⟩
 case round =>
  obtain ⟨u,l,rfl,rfl,hu,hlu,hb,HP⟩:=hrel
  have hlen:=size_of l
  have hl1 : l.length <= N + 1:=by omega
  have hsz : (⟨l.toArray⟩ : ByteArray).size <= N + 1:=by omega
  by_cases hc : 0 < u \/ l = []
  ·have hst:=preD_step u l hc
   have HS:=Lib.hid hst
   have hd0 : 0 <= (u : Int) % 10:=by omega
   have hd1 : (u : Int) % 10 < 10:=by omega
   have hrow : ORow (wr.alloc (.cells #[.int .u8 (48 + (u : Int) % 10)] 5)) wr.heap.size 5 (.slice (some ⟨wr.heap.size,0,none⟩) 1 1) ([UInt8.ofNat (48 + u % 10)].map bV):=by
    have e : ([UInt8.ofNat (48 + u % 10)].map bV) = [.int .u8 (48 + (u : Int) % 10)]:=by
     simp only [List.map_cons,List.map_nil,bV]
     rw [digit_ofNat (u % 10) (by omega)]
     push_cast
     rfl
    rw [e]
    exact ORow.lit wr _ _ _ (Nat.le_refl _) (by simp [maxLen])
   have hstr:=put_str _ hrow
   have hbs:=hb.size
   clear hst hrow
   by_cases hu0 : 0 < u
   ·have hc2 : 0 < (u : Int):=by omega
    have hnil : ¬ ((⟨l.toArray⟩ : ByteArray).size < 0):=by omega
    clear hc
    go_wp2
    refine ⟨⟨u / 10,UInt8.ofNat (48 + u % 10) :: l,by go_num,by rw [app_48],by omega,by simp; omega,hb.alloc hbs _,Lib.hid (HP.out.trans HS.out)⟩,?_⟩
    simp [intOf,strSize] <;> omega
   ·have hl : l = []:=by
     rcases hc with hc | hc
     ·exact absurd hc hu0
     ·exact hc
    subst hl
    have hz : u = 0:=by omega
    have hrow0 : ORow (wr.alloc (.cells #[.int .u8 48] 5)) wr.heap.size 5 (.slice (some ⟨wr.heap.size,0,none⟩) 1 1) ([48].map bV):=ORow.lit wr _ _ #[.int .u8 48] (Nat.le_refl _) (by simp [maxLen])
    clear hstr
    have hstr:=put_str _ hrow0
    subst hz
    clear hc hrow0
    go_wp2
    refine ⟨⟨0,[48],by go_num,rfl,by omega,by simp,hb.alloc hbs _,Lib.hid (HP.out.trans HS.out)⟩,?_⟩
    decide
  ·have hu0 : u = 0:=by omega
   have hl0 : l ≠ []:=fun h => hc (.inr h)
   subst hu0
   have hfin : Lib.decDigits N = l:=by rw [HP.out]; unfold preD; rw [if_pos ⟨rfl,hl0⟩]
   have HF:=Lib.hid hfin
   have hn1 : (⟨l.toArray⟩ : ByteArray).toList.isEmpty = false:=by rw [Lib.toList_data]; cases l with
    | nil => exact absurd rfl hl0
    | cons a l => rfl
   have hn2 : ((⟨l.toArray⟩ : ByteArray).toList == []) = false:=by rw [Lib.toList_data]; cases l with
    | nil => exact absurd rfl hl0
    | cons a l => rfl
   have hn3 : l.isEmpty = false:=by cases l with
    | nil => exact absurd rfl hl0
    | cons a l => rfl
   have hn4 : (l == []) = false:=by cases l with
    | nil => exact absurd rfl hl0
    | cons a l => rfl
   clear hc hfin
   go_wp2
   go_ret
   exact ⟨ret_str HF.out.symm,hb⟩
end Go.Proofs.YtbnppjmmlfncmaaGreatDoor.Nm
