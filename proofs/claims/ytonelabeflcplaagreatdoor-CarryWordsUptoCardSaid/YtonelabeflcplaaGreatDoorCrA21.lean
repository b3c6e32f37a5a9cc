/-
  The reference's parts, where the text begins without one: by program out of one text.
  The reference's parts and May, whole; the walk of NumMay.
  A normal form is read as itself; what follows for the order.
-/
import Derived.Test.YtonelabeflcplaaGreatDoorCrA19
import Derived.Test.YtonelabeflcplaaGreatDoorCrA20
import Derived.Test.YtonelabeflcplaaGreatDoorCrA13
import Derived.Test.YtonelabeflcplaaGreatDoorCrA12
namespace Go.Proofs.YtonelabeflcplaaGreatDoor.Nm
open Go.RowKit
set_option maxRecDepth 100000
set_option linter.unusedVariables false

set_option maxHeartbeats 1000000 in
theorem parts_0_bad0 (s : ByteArray) (w : World) (hs : s.size ≤ 140737488355328) (h00 : ∀ h : 0 < s.size, ((s[0].toNat : Int) == 45) = false) (n : Nat) (HA : Hid (off s.data.toList = 0)) (HN : Hid (twN (s.data.toList.drop 0) = n)) (lenS : s.data.toList.length = s.size) (hz : n = 0) (hlt : n < s.size) :
    Calls Tryz.prog 153 #[.string s] w fun e w' => e = .returned (partsA (parts s.data.toList)) ∧ ∃ n, w' = w.drewN n := by
  have hfin := fin_no (e_bad0 HA.out HN.out (by rw [lenS]; omega) hz)
  have HF := Lib.hid hfin
  have hp0 : 0 < s.size := by omega
  have h00 := h00 hp0
  have HZ := Lib.hid hz
  have hzb : ((n : Int) == 0) = true := by rw [hz]; rfl
  clear hfin lenS hz
  go_enter Tryz.func153, Tryz.ntmps153
  go_wp2_with (fail)
  refine (run_any s 0 _ rfl _ (by omega) hs).mono ?_
  rintro e w' ⟨rfl, rfl⟩
  rw [HN.out]
  go_wp2
  (try simp only [Exit.inBlock, Exit.then]); refine bodyPost_ret (results_tmp5 rfl _ _ _) rfl ?_
  exact ⟨HF.out, 0, rfl⟩
set_option maxHeartbeats 1000000 in
theorem parts_0_bad1 (s : ByteArray) (w : World) (hs : s.size ≤ 140737488355328) (h00 : ∀ h : 0 < s.size, ((s[0].toNat : Int) == 45) = false) (n : Nat) (HA : Hid (off s.data.toList = 0)) (HN : Hid (twN (s.data.toList.drop 0) = n)) (lenS : s.data.toList.length = s.size) (h1 : 1 < n) (hle : n ≤ s.size) (hA : 0 < s.size) (hb : ((s[0]).toNat : Int) = 48) :
    Calls Tryz.prog 153 #[.string s] w fun e w' => e = .returned (partsA (parts s.data.toList)) ∧ ∃ n, w' = w.drewN n := by
  have hfin := fin_no (e_bad1 HA.out HN.out h1 (by rw [b_at s 0 hA]; omega))
  have HF := Lib.hid hfin
  have h00 := h00 hA
  have hzb : ((n : Int) == 0) = false := by rw [beq_eq_false_iff_ne]; omega
  have hbb : (((s[0]).toNat : Int) == 48) = true := by rw [hb]; rfl
  clear hfin lenS hb
  go_enter Tryz.func153, Tryz.ntmps153
  go_wp2_with (fail)
  refine (run_any s 0 _ rfl _ (by omega) hs).mono ?_
  rintro e w' ⟨rfl, rfl⟩
  rw [HN.out]
  go_wp2
  all_goals
    (try simp only [Exit.inBlock, Exit.then]); refine bodyPost_ret (results_tmp5 rfl _ _ _) rfl ?_
    exact ⟨HF.out, 0, rfl⟩
def Not48_0 (s : ByteArray) (n : Nat) : Prop := n ≤ 1 ∨ (1 < n ∧ ∃ h : 0 < s.size, ((s[0].toNat : Int) == 48) = false)
theorem not48_0 {s : ByteArray} {n : Nat} (h : Not48_0 s n) : ¬ (1 < n ∧ bAt s.data.toList 0 = 48) := by
  intro hh
  rcases h with h | ⟨_, h1, h2⟩
  · omega
  · have h3 := hh.2
    rw [b_at s 0 h1] at h3
    rw [beq_eq_false_iff_ne] at h2
    omega
set_option maxHeartbeats 1000000 in
theorem parts_0_end (s : ByteArray) (w : World) (hs : s.size ≤ 140737488355328) (h00 : ∀ h : 0 < s.size, ((s[0].toNat : Int) == 45) = false) (n : Nat) (HA : Hid (off s.data.toList = 0)) (HN : Hid (twN (s.data.toList.drop 0) = n)) (lenS : s.data.toList.length = s.size) (h48 : Not48_0 s n) (he : n = s.size) :
    Calls Tryz.prog 153 #[.string s] w fun e w' => e = .returned (partsA (parts s.data.toList)) ∧ ∃ n, w' = w.drewN n := by
  have hfin := e_end HA.out HN.out (by rw [lenS]; omega) (not48_0 h48)
  have HF := Lib.hid hfin
  have hnl : ¬ (n < s.size) := by omega
  have hle : s.size ≤ n := by omega
  have hge : n ≤ s.size := by omega
  have hzz : (((n : Nat) : Int) == (s.size : Int)) = true := by rw [he]; simp
  push_cast at hzz
  clear hfin lenS he
  rcases h48 with h48 | ⟨h48, h481, h482⟩

  all_goals
    by_cases hp : 0 < s.size
    · have h00 := h00 hp
      go_enter Tryz.func153, Tryz.ntmps153
      go_wp2_with (fail)
      refine (run_any s 0 _ rfl _ (by omega) hs).mono ?_
      rintro e w' ⟨rfl, rfl⟩
      rw [HN.out]
      go_wp2
      all_goals
        (try simp only [Exit.inBlock, Exit.then]); refine bodyPost_ret (results_tmp5 rfl _ _ _) rfl ?_
        exact ⟨fin5 HF.out (by have hh := ext_take s 0 n; rw [Nat.zero_add] at hh; exact hh) (by rfl) (by rfl) (by rfl) (by simp), 0, rfl⟩
    · clear h00
      first
        | exact absurd (by omega : 0 < s.size) hp
        | skip
      all_goals
        go_enter Tryz.func153, Tryz.ntmps153
        go_wp2_with (fail)
        refine (run_any s 0 _ rfl _ (by omega) hs).mono ?_
        rintro e w' ⟨rfl, rfl⟩
        rw [HN.out]
        go_wp2
        all_goals
          (try simp only [Exit.inBlock, Exit.then]); refine bodyPost_ret (results_tmp5 rfl _ _ _) rfl ?_
          exact ⟨fin5 HF.out (by have hh := ext_take s 0 n; rw [Nat.zero_add] at hh; exact hh) (by rfl) (by rfl) (by rfl) (by simp), 0, rfl⟩

set_option maxHeartbeats 4000000 in
theorem parts_0_go (s : ByteArray) (w : World) (hs : s.size ≤ 140737488355328) (h00 : ∀ h : 0 < s.size, ((s[0].toNat : Int) == 45) = false) (n : Nat) (HA : Hid (off s.data.toList = 0)) (HN : Hid (twN (s.data.toList.drop 0) = n)) (lenS : s.data.toList.length = s.size) (h48 : Not48_0 s n) (h0 : 0 < n) (hlt : n < s.size) :
    Calls Tryz.prog 153 #[.string s] w fun e w' => e = .returned (partsA (parts s.data.toList)) ∧ ∃ n, w' = w.drewN n := by
  have h48' := not48_0 h48
  have hp0 : 0 < s.size := by omega
  have h00 := h00 hp0
  have hzb : ((n : Int) == 0) = false := by rw [beq_eq_false_iff_ne]; omega
  have hzc : (((n : Nat) : Int) == (s.size : Int)) = false := by rw [beq_eq_false_iff_ne]; omega
  push_cast at hzc
  have hle := tw_le (s.data.toList.drop (n + 1))
  rw [List.length_drop, lenS] at hle
  generalize hm : twN (s.data.toList.drop (n + 1)) = m at hle
  have HM := Lib.hid hm
  have hgo : bAt s.data.toList (n) ≠ 46 → AtE s.data.toList (n) ((s.data.toList.drop 0).take n) [] := fun hb => by
    have hh := e_np_go HA.out HN.out h0 h48' (by rw [lenS]; omega) (by rw [Nat.zero_add]; exact hb)
    rw [Nat.zero_add] at hh; exact hh
  have hpe : bAt s.data.toList (n) = 46 → n + 1 + m = s.size → parts s.data.toList = ⟨(s.data.toList.drop 0).take n, (s.data.toList.drop (n + 1)).take m, [], true, decide (0 < m)⟩ := fun hb h => by
    have hh := e_pt_end (m := m) HA.out HN.out h0 h48' (by rw [lenS]; omega) (by rw [Nat.zero_add]; exact hb) (by rw [Nat.zero_add]; exact hm) (by rw [lenS]; omega)
    rw [Nat.zero_add] at hh; exact hh
  have hpb : bAt s.data.toList (n) = 46 → n + 1 + m < s.size → m = 0 → parts s.data.toList = noParts := fun hb h hz =>
    e_pt_bad (m := m) HA.out HN.out h0 h48' (by rw [lenS]; omega) (by rw [Nat.zero_add]; exact hb) (by rw [Nat.zero_add]; exact hm) (by rw [lenS]; omega) hz
  have hpg : bAt s.data.toList (n) = 46 → n + 1 + m < s.size → m ≠ 0 → AtE s.data.toList (n + 1 + m) ((s.data.toList.drop 0).take n) ((s.data.toList.drop (n + 1)).take m) := fun hb h hz => by
    have hh := e_pt_go (m := m) HA.out HN.out h0 h48' (by rw [lenS]; omega) (by rw [Nat.zero_add]; exact hb) (by rw [Nat.zero_add]; exact hm) (by rw [lenS]; omega) hz
    rw [Nat.zero_add] at hh; exact hh
  rw [b_at s _ hlt] at hgo hpe hpb hpg
  have HGO := Lib.hid hgo
  have HPE := Lib.hid hpe
  have HPB := Lib.hid hpb
  have HPG := Lib.hid hpg
  have LS := Lib.hid lenS
  clear h48' hm hgo hpe hpb hpg lenS
  rcases h48 with h48 | ⟨h48, h481, h482⟩
  all_goals
    go_enter Tryz.func153, Tryz.ntmps153
    go_wp2_with (fail)
    refine (run_any s 0 _ rfl _ (by omega) hs).mono ?_
    rintro e w' ⟨rfl, rfl⟩
    rw [HN.out]
    go_upto_if 64 with (fail)
    go_cut [7, 10] (fun s7 s10 wx => ∃ (K : Nat) (F : ByteArray), s7 = .int .i64 K ∧ s10 = .string F ∧ wx = w ∧ K < s.size ∧ Hid (AtE s.data.toList K ((s.data.toList.drop 0).take n) F.data.toList))
    case first =>
      generalize hB : (s[n].toNat : Int) = B
      have HB := Lib.hid hB
      clear hB
      by_cases hb : B = 46
      · have hbb : (B == 46) = true := by rw [hb]; rfl
        have hbn : s[n].toNat = 46 := by have := HB.out; omega
        have HBN := Lib.hid hbn
        clear hb hbn
        go_wp2_with (fail)
        refine (run_any s (n + 1) _ (by omega) _ (by omega) hs).mono ?_
        rintro e w' ⟨rfl, rfl⟩
        rw [HM.out]
        by_cases hK : n + 1 + m = s.size
        · have hF := HPE.out HBN.out hK
          have HF := Lib.hid hF
          have hzd : (((n + 1 + m : Nat) : Int) == (s.size : Int)) = true := by rw [hK]; simp
          push_cast at hzd
          have hK1 : n + 1 + m ≤ s.size := by omega
          clear hF hK
          go_wp2
          (try simp only [Exit.inBlock, Exit.then]); refine bodyPost_ret (results_tmp5 rfl _ _ _) rfl ?_
          exact ⟨fin5 HF.out (by have hh := ext_take s 0 n; rw [Nat.zero_add] at hh; exact hh) (ext_take s (n + 1) m) (by rfl) (by rfl) (by simp), 0, rfl⟩
        · have hK1 : n + 1 + m < s.size := by omega
          have hzd : (((n + 1 + m : Nat) : Int) == (s.size : Int)) = false := by rw [beq_eq_false_iff_ne]; omega
          push_cast at hzd
          clear hK
          by_cases hz : m = 0
          · have hF := fin_no (HPB.out HBN.out hK1 hz)
            have HF := Lib.hid hF
            have hze : ((m : Int) == 0) = true := by rw [hz]; rfl
            clear hF hz
            go_wp2
            (try simp only [Exit.inBlock, Exit.then]); refine bodyPost_ret (results_tmp5 rfl _ _ _) rfl ?_
            exact ⟨HF.out, 0, rfl⟩
          · have hF := HPG.out HBN.out hK1 hz
            have HF := Lib.hid hF
            have hze : ((m : Int) == 0) = false := by rw [beq_eq_false_iff_ne]; omega
            clear hF hz
            go_wp2
            go_meet
            exact ⟨n + 1 + m, _, by go_num, rfl, rfl, hK1, Lib.hid (by rw [ext_take]; exact HF.out)⟩
      · have hbb : (B == 46) = false := by rw [beq_eq_false_iff_ne]; exact hb
        have hF := HGO.out (by have := HB.out; omega)
        have HF := Lib.hid hF
        clear hb hF
        go_wp2
        go_meet
        exact ⟨n, _, by go_num, rfl, rfl, hlt, Lib.hid (by exact HF.out)⟩
    case rest =>
      obtain ⟨K, F, rfl, rfl, rfl, hKlt, HAT⟩ := hcut
      have lenS := LS.out
      by_cases e101 : (s[K].toNat : Int) = 101
      · have hne1 : ((s[K].toNat : Int) != 101) = false := by rw [e101]; rfl
        by_cases hK1 : K + 1 < s.size
        · by_cases p43 : (s[K + 1].toNat : Int) = 43
          · have q43 : ((s[K + 1].toNat : Int) == 43) = true := by rw [p43]; rfl
            have hsg : sgn (s.data.toList.drop (K + 1)) = s.data.toList.drop (K + 2) := sgn_at (by rw [lenS]; exact .inl ⟨rfl, hK1, .inl (by rw [b_at s _ hK1]; omega)⟩)
            have hq0 := tw_le (s.data.toList.drop (K + 2))
            rw [List.length_drop, lenS] at hq0
            generalize hq : twN (s.data.toList.drop (K + 2)) = q at hq0
            have HQ := Lib.hid hq
            have hee : bAt s.data.toList K = 101 ∨ bAt s.data.toList K = 69 := by rw [b_at s K hKlt]; omega
            by_cases hend : K + 2 + q < s.size
            · have hF := fin_no (e_x_bad HAT.out hee hsg hq (by rw [lenS]; exact hend))
              have HF := Lib.hid hF
              clear hF hsg hq hee lenS e101 p43
              go_wp2_with (fail)
              refine (run_any s (K + 2) _ (by omega) _ (by omega) hs).mono ?_
              rintro e w' ⟨rfl, rfl⟩
              rw [HQ.out]
              go_wp2
              (try simp only [Exit.inBlock, Exit.then]); refine bodyPost_ret (results_tmp5 rfl _ _ _) rfl ?_
              exact ⟨HF.out, 0, rfl⟩
            · have hF := e_x_ok HAT.out hee hsg hq (by rw [lenS]; omega)
              have HF := Lib.hid hF
              have hend2 : s.size ≤ K + 2 + q := by omega
              have hk1 : K + 1 ≤ s.size := by omega
              have hk1i : (K : Int) + 1 ≤ s.size := by omega
              clear hF hsg hq hee hend lenS e101 p43
              go_wp2_with (fail)
              refine (run_any s (K + 2) _ (by omega) _ (by omega) hs).mono ?_
              rintro e w' ⟨rfl, rfl⟩
              rw [HQ.out]
              go_wp2
              go_quiet (fail)
              go_wp2
              (try simp only [Exit.inBlock, Exit.then]); refine bodyPost_ret (results_tmp5 rfl _ _ _) rfl ?_
              exact ⟨fin5 HF.out (by have hh := ext_take s 0 n; rw [Nat.zero_add] at hh; exact hh) (by rfl) (ext_drop s (K + 1)) (by rfl) (by simp), _, rfl⟩
          · have q43 : ((s[K + 1].toNat : Int) == 43) = false := by rw [beq_eq_false_iff_ne]; exact p43
            by_cases p45 : (s[K + 1].toNat : Int) = 45
            · have q45 : ((s[K + 1].toNat : Int) == 45) = true := by rw [p45]; rfl
              have hsg : sgn (s.data.toList.drop (K + 1)) = s.data.toList.drop (K + 2) := sgn_at (by rw [lenS]; exact .inl ⟨rfl, hK1, .inr (by rw [b_at s _ hK1]; omega)⟩)
              have hq0 := tw_le (s.data.toList.drop (K + 2))
              rw [List.length_drop, lenS] at hq0
              generalize hq : twN (s.data.toList.drop (K + 2)) = q at hq0
              have HQ := Lib.hid hq
              have hee : bAt s.data.toList K = 101 ∨ bAt s.data.toList K = 69 := by rw [b_at s K hKlt]; omega
              by_cases hend : K + 2 + q < s.size
              · have hF := fin_no (e_x_bad HAT.out hee hsg hq (by rw [lenS]; exact hend))
                have HF := Lib.hid hF
                clear hF hsg hq hee lenS e101 p43 p45
                go_wp2_with (fail)
                refine (run_any s (K + 2) _ (by omega) _ (by omega) hs).mono ?_
                rintro e w' ⟨rfl, rfl⟩
                rw [HQ.out]
                go_wp2
                (try simp only [Exit.inBlock, Exit.then]); refine bodyPost_ret (results_tmp5 rfl _ _ _) rfl ?_
                exact ⟨HF.out, 0, rfl⟩
              · have hF := e_x_ok HAT.out hee hsg hq (by rw [lenS]; omega)
                have HF := Lib.hid hF
                have hend2 : s.size ≤ K + 2 + q := by omega
                have hk1 : K + 1 ≤ s.size := by omega
                have hk1i : (K : Int) + 1 ≤ s.size := by omega
                clear hF hsg hq hee hend lenS e101 p43 p45
                go_wp2_with (fail)
                refine (run_any s (K + 2) _ (by omega) _ (by omega) hs).mono ?_
                rintro e w' ⟨rfl, rfl⟩
                rw [HQ.out]
                go_wp2
                go_quiet (fail)
                go_wp2
                (try simp only [Exit.inBlock, Exit.then]); refine bodyPost_ret (results_tmp5 rfl _ _ _) rfl ?_
                exact ⟨fin5 HF.out (by have hh := ext_take s 0 n; rw [Nat.zero_add] at hh; exact hh) (by rfl) (ext_drop s (K + 1)) (by rfl) (by simp), _, rfl⟩
            · have q45 : ((s[K + 1].toNat : Int) == 45) = false := by rw [beq_eq_false_iff_ne]; exact p45
              have hsg : sgn (s.data.toList.drop (K + 1)) = s.data.toList.drop (K + 1) := sgn_at (by exact .inr ⟨rfl, .inr ⟨by rw [b_at s _ hK1]; omega, by rw [b_at s _ hK1]; omega⟩⟩)
              have hq0 := tw_le (s.data.toList.drop (K + 1))
              rw [List.length_drop, lenS] at hq0
              generalize hq : twN (s.data.toList.drop (K + 1)) = q at hq0
              have HQ := Lib.hid hq
              have hee : bAt s.data.toList K = 101 ∨ bAt s.data.toList K = 69 := by rw [b_at s K hKlt]; omega
              by_cases hend : K + 1 + q < s.size
              · have hF := fin_no (e_x_bad HAT.out hee hsg hq (by rw [lenS]; exact hend))
                have HF := Lib.hid hF
                clear hF hsg hq hee lenS e101 p43 p45
                go_wp2_with (fail)
                refine (run_any s (K + 1) _ (by omega) _ (by omega) hs).mono ?_
                rintro e w' ⟨rfl, rfl⟩
                rw [HQ.out]
                go_wp2
                (try simp only [Exit.inBlock, Exit.then]); refine bodyPost_ret (results_tmp5 rfl _ _ _) rfl ?_
                exact ⟨HF.out, 0, rfl⟩
              · have hF := e_x_ok HAT.out hee hsg hq (by rw [lenS]; omega)
                have HF := Lib.hid hF
                have hend2 : s.size ≤ K + 1 + q := by omega
                have hk1 : K + 1 ≤ s.size := by omega
                have hk1i : (K : Int) + 1 ≤ s.size := by omega
                clear hF hsg hq hee hend lenS e101 p43 p45
                go_wp2_with (fail)
                refine (run_any s (K + 1) _ (by omega) _ (by omega) hs).mono ?_
                rintro e w' ⟨rfl, rfl⟩
                rw [HQ.out]
                go_wp2
                go_quiet (fail)
                go_wp2
                (try simp only [Exit.inBlock, Exit.then]); refine bodyPost_ret (results_tmp5 rfl _ _ _) rfl ?_
                exact ⟨fin5 HF.out (by have hh := ext_take s 0 n; rw [Nat.zero_add] at hh; exact hh) (by rfl) (ext_drop s (K + 1)) (by rfl) (by simp), _, rfl⟩
        · have hK2 : s.size ≤ K + 1 := by omega
          have hsg : sgn (s.data.toList.drop (K + 1)) = s.data.toList.drop (K + 1) := sgn_at (by rw [lenS]; exact .inr ⟨rfl, .inl hK2⟩)
          have hq0 := tw_le (s.data.toList.drop (K + 1))
          rw [List.length_drop, lenS] at hq0
          generalize hq : twN (s.data.toList.drop (K + 1)) = q at hq0
          have HQ := Lib.hid hq
          have hee : bAt s.data.toList K = 101 ∨ bAt s.data.toList K = 69 := by rw [b_at s K hKlt]; omega
          by_cases hend : K + 1 + q < s.size
          · exact absurd hend (by omega)
          · have hF := e_x_ok HAT.out hee hsg hq (by rw [lenS]; omega)
            have HF := Lib.hid hF
            have hend2 : s.size ≤ K + 1 + q := by omega
            have hk1 : K + 1 ≤ s.size := by omega
            have hk1i : (K : Int) + 1 ≤ s.size := by omega
            clear hF hsg hq hee hend lenS e101 hK1
            go_wp2_with (fail)
            refine (run_any s (K + 1) _ (by omega) _ (by omega) hs).mono ?_
            rintro e w' ⟨rfl, rfl⟩
            rw [HQ.out]
            go_wp2
            go_quiet (fail)
            go_wp2
            (try simp only [Exit.inBlock, Exit.then]); refine bodyPost_ret (results_tmp5 rfl _ _ _) rfl ?_
            exact ⟨fin5 HF.out (by have hh := ext_take s 0 n; rw [Nat.zero_add] at hh; exact hh) (by rfl) (ext_drop s (K + 1)) (by rfl) (by simp), _, rfl⟩
      · have hne1 : ((s[K].toNat : Int) != 101) = true := by rw [bne_iff_ne]; exact e101
        by_cases e69 : (s[K].toNat : Int) = 69
        · have hne2 : ((s[K].toNat : Int) != 69) = false := by rw [e69]; rfl
          by_cases hK1 : K + 1 < s.size
          · by_cases p43 : (s[K + 1].toNat : Int) = 43
            · have q43 : ((s[K + 1].toNat : Int) == 43) = true := by rw [p43]; rfl
              have hsg : sgn (s.data.toList.drop (K + 1)) = s.data.toList.drop (K + 2) := sgn_at (by rw [lenS]; exact .inl ⟨rfl, hK1, .inl (by rw [b_at s _ hK1]; omega)⟩)
              have hq0 := tw_le (s.data.toList.drop (K + 2))
              rw [List.length_drop, lenS] at hq0
              generalize hq : twN (s.data.toList.drop (K + 2)) = q at hq0
              have HQ := Lib.hid hq
              have hee : bAt s.data.toList K = 101 ∨ bAt s.data.toList K = 69 := by rw [b_at s K hKlt]; omega
              by_cases hend : K + 2 + q < s.size
              · have hF := fin_no (e_x_bad HAT.out hee hsg hq (by rw [lenS]; exact hend))
                have HF := Lib.hid hF
                clear hF hsg hq hee lenS e101 e69 p43
                go_wp2_with (fail)
                refine (run_any s (K + 2) _ (by omega) _ (by omega) hs).mono ?_
                rintro e w' ⟨rfl, rfl⟩
                rw [HQ.out]
                go_wp2
                (try simp only [Exit.inBlock, Exit.then]); refine bodyPost_ret (results_tmp5 rfl _ _ _) rfl ?_
                exact ⟨HF.out, 0, rfl⟩
              · have hF := e_x_ok HAT.out hee hsg hq (by rw [lenS]; omega)
                have HF := Lib.hid hF
                have hend2 : s.size ≤ K + 2 + q := by omega
                have hk1 : K + 1 ≤ s.size := by omega
                have hk1i : (K : Int) + 1 ≤ s.size := by omega
                clear hF hsg hq hee hend lenS e101 e69 p43
                go_wp2_with (fail)
                refine (run_any s (K + 2) _ (by omega) _ (by omega) hs).mono ?_
                rintro e w' ⟨rfl, rfl⟩
                rw [HQ.out]
                go_wp2
                go_quiet (fail)
                go_wp2
                (try simp only [Exit.inBlock, Exit.then]); refine bodyPost_ret (results_tmp5 rfl _ _ _) rfl ?_
                exact ⟨fin5 HF.out (by have hh := ext_take s 0 n; rw [Nat.zero_add] at hh; exact hh) (by rfl) (ext_drop s (K + 1)) (by rfl) (by simp), _, rfl⟩
            · have q43 : ((s[K + 1].toNat : Int) == 43) = false := by rw [beq_eq_false_iff_ne]; exact p43
              by_cases p45 : (s[K + 1].toNat : Int) = 45
              · have q45 : ((s[K + 1].toNat : Int) == 45) = true := by rw [p45]; rfl
                have hsg : sgn (s.data.toList.drop (K + 1)) = s.data.toList.drop (K + 2) := sgn_at (by rw [lenS]; exact .inl ⟨rfl, hK1, .inr (by rw [b_at s _ hK1]; omega)⟩)
                have hq0 := tw_le (s.data.toList.drop (K + 2))
                rw [List.length_drop, lenS] at hq0
                generalize hq : twN (s.data.toList.drop (K + 2)) = q at hq0
                have HQ := Lib.hid hq
                have hee : bAt s.data.toList K = 101 ∨ bAt s.data.toList K = 69 := by rw [b_at s K hKlt]; omega
                by_cases hend : K + 2 + q < s.size
                · have hF := fin_no (e_x_bad HAT.out hee hsg hq (by rw [lenS]; exact hend))
                  have HF := Lib.hid hF
                  clear hF hsg hq hee lenS e101 e69 p43 p45
                  go_wp2_with (fail)
                  refine (run_any s (K + 2) _ (by omega) _ (by omega) hs).mono ?_
                  rintro e w' ⟨rfl, rfl⟩
                  rw [HQ.out]
                  go_wp2
                  (try simp only [Exit.inBlock, Exit.then]); refine bodyPost_ret (results_tmp5 rfl _ _ _) rfl ?_
                  exact ⟨HF.out, 0, rfl⟩
                · have hF := e_x_ok HAT.out hee hsg hq (by rw [lenS]; omega)
                  have HF := Lib.hid hF
                  have hend2 : s.size ≤ K + 2 + q := by omega
                  have hk1 : K + 1 ≤ s.size := by omega
                  have hk1i : (K : Int) + 1 ≤ s.size := by omega
                  clear hF hsg hq hee hend lenS e101 e69 p43 p45
                  go_wp2_with (fail)
                  refine (run_any s (K + 2) _ (by omega) _ (by omega) hs).mono ?_
                  rintro e w' ⟨rfl, rfl⟩
                  rw [HQ.out]
                  go_wp2
                  go_quiet (fail)
                  go_wp2
                  (try simp only [Exit.inBlock, Exit.then]); refine bodyPost_ret (results_tmp5 rfl _ _ _) rfl ?_
                  exact ⟨fin5 HF.out (by have hh := ext_take s 0 n; rw [Nat.zero_add] at hh; exact hh) (by rfl) (ext_drop s (K + 1)) (by rfl) (by simp), _, rfl⟩
              · have q45 : ((s[K + 1].toNat : Int) == 45) = false := by rw [beq_eq_false_iff_ne]; exact p45
                have hsg : sgn (s.data.toList.drop (K + 1)) = s.data.toList.drop (K + 1) := sgn_at (by exact .inr ⟨rfl, .inr ⟨by rw [b_at s _ hK1]; omega, by rw [b_at s _ hK1]; omega⟩⟩)
                have hq0 := tw_le (s.data.toList.drop (K + 1))
                rw [List.length_drop, lenS] at hq0
                generalize hq : twN (s.data.toList.drop (K + 1)) = q at hq0
                have HQ := Lib.hid hq
                have hee : bAt s.data.toList K = 101 ∨ bAt s.data.toList K = 69 := by rw [b_at s K hKlt]; omega
                by_cases hend : K + 1 + q < s.size
                · have hF := fin_no (e_x_bad HAT.out hee hsg hq (by rw [lenS]; exact hend))
                  have HF := Lib.hid hF
                  clear hF hsg hq hee lenS e101 e69 p43 p45
                  go_wp2_with (fail)
                  refine (run_any s (K + 1) _ (by omega) _ (by omega) hs).mono ?_
                  rintro e w' ⟨rfl, rfl⟩
                  rw [HQ.out]
                  go_wp2
                  (try simp only [Exit.inBlock, Exit.then]); refine bodyPost_ret (results_tmp5 rfl _ _ _) rfl ?_
                  exact ⟨HF.out, 0, rfl⟩
                · have hF := e_x_ok HAT.out hee hsg hq (by rw [lenS]; omega)
                  have HF := Lib.hid hF
                  have hend2 : s.size ≤ K + 1 + q := by omega
                  have hk1 : K + 1 ≤ s.size := by omega
                  have hk1i : (K : Int) + 1 ≤ s.size := by omega
                  clear hF hsg hq hee hend lenS e101 e69 p43 p45
                  go_wp2_with (fail)
                  refine (run_any s (K + 1) _ (by omega) _ (by omega) hs).mono ?_
                  rintro e w' ⟨rfl, rfl⟩
                  rw [HQ.out]
                  go_wp2
                  go_quiet (fail)
                  go_wp2
                  (try simp only [Exit.inBlock, Exit.then]); refine bodyPost_ret (results_tmp5 rfl _ _ _) rfl ?_
                  exact ⟨fin5 HF.out (by have hh := ext_take s 0 n; rw [Nat.zero_add] at hh; exact hh) (by rfl) (ext_drop s (K + 1)) (by rfl) (by simp), _, rfl⟩
          · have hK2 : s.size ≤ K + 1 := by omega
            have hsg : sgn (s.data.toList.drop (K + 1)) = s.data.toList.drop (K + 1) := sgn_at (by rw [lenS]; exact .inr ⟨rfl, .inl hK2⟩)
            have hq0 := tw_le (s.data.toList.drop (K + 1))
            rw [List.length_drop, lenS] at hq0
            generalize hq : twN (s.data.toList.drop (K + 1)) = q at hq0
            have HQ := Lib.hid hq
            have hee : bAt s.data.toList K = 101 ∨ bAt s.data.toList K = 69 := by rw [b_at s K hKlt]; omega
            by_cases hend : K + 1 + q < s.size
            · exact absurd hend (by omega)
            · have hF := e_x_ok HAT.out hee hsg hq (by rw [lenS]; omega)
              have HF := Lib.hid hF
              have hend2 : s.size ≤ K + 1 + q := by omega
              have hk1 : K + 1 ≤ s.size := by omega
              have hk1i : (K : Int) + 1 ≤ s.size := by omega
              clear hF hsg hq hee hend lenS e101 e69 hK1
              go_wp2_with (fail)
              refine (run_any s (K + 1) _ (by omega) _ (by omega) hs).mono ?_
              rintro e w' ⟨rfl, rfl⟩
              rw [HQ.out]
              go_wp2
              go_quiet (fail)
              go_wp2
              (try simp only [Exit.inBlock, Exit.then]); refine bodyPost_ret (results_tmp5 rfl _ _ _) rfl ?_
              exact ⟨fin5 HF.out (by have hh := ext_take s 0 n; rw [Nat.zero_add] at hh; exact hh) (by rfl) (ext_drop s (K + 1)) (by rfl) (by simp), _, rfl⟩
        · have hne2 : ((s[K].toNat : Int) != 69) = true := by rw [bne_iff_ne]; exact e69
          have hF := fin_no (e_x_no HAT.out (by rw [b_at s K hKlt]; omega) (by rw [b_at s K hKlt]; omega))
          have HF := Lib.hid hF
          clear hF e101 e69 lenS
          go_wp2
          (try simp only [Exit.inBlock, Exit.then]); refine bodyPost_ret (results_tmp5 rfl _ _ _) rfl ?_
          exact ⟨HF.out, 0, rfl⟩

end Go.Proofs.YtonelabeflcplaaGreatDoor.Nm
namespace Go.Proofs.YtonelabeflcplaaGreatDoor.Nm
open Go.RowKit
set_option maxRecDepth 100000

theorem parts_any (s : ByteArray) (w : World) (hs : s.size ≤ 140737488355328) :
    Calls Tryz.prog 153 #[.string s] w fun e w' => e = .returned (partsA (parts s.data.toList)) ∧ ∃ n, w' = w.drewN n := by
  have lenS : s.data.toList.length = s.size := by simp
  by_cases hn : ∃ h : 0 < s.size, s[0].toNat = 45
  · obtain ⟨hpos, hb⟩ := hn
    have h00 : ((s[0].toNat : Int) == 45) = true := by rw [beq_iff_eq]; omega
    have HA : Hid (off s.data.toList = 1) := Lib.hid (off_one (by rw [lenS]; exact hpos) (by rw [b_at s 0 hpos]; exact hb))
    have hle := tw_le (s.data.toList.drop 1)
    rw [List.length_drop, lenS] at hle
    generalize hn : twN (s.data.toList.drop 1) = n at hle
    have HN := Lib.hid hn
    by_cases h1 : 1 + n < s.size ∧ n = 0
    · exact parts_1_bad0 s w hs hpos h00 n HA HN lenS h1.2 h1.1
    · by_cases h2 : 1 < n ∧ ∃ h : 1 < s.size, s[1].toNat = 48
      · obtain ⟨h2, hA, hb⟩ := h2
        exact parts_1_bad1 s w hs hpos h00 n HA HN lenS h2 (by omega) hA (by omega)
      · have h48 : Not48_1 s n := by
          rcases Nat.lt_or_ge 1 n with hh | hh
          · have hA : 1 < s.size := by omega
            exact .inr ⟨hh, hA, by rw [beq_eq_false_iff_ne]; intro hc; exact h2 ⟨hh, hA, by omega⟩⟩
          · exact .inl hh
        by_cases h3 : 1 + n = s.size
        · exact parts_1_end s w hs hpos h00 n HA HN lenS h48 h3
        · exact parts_1_go s w hs hpos h00 n HA HN lenS h48 (by omega) (by omega)
  · have h00 : ∀ h : 0 < s.size, ((s[0].toNat : Int) == 45) = false := fun h => by rw [beq_eq_false_iff_ne]; intro hc; exact hn ⟨h, by omega⟩
    have HA : Hid (off s.data.toList = 0) := Lib.hid (off_zero (fun h => by rw [lenS] at h; rw [b_at s 0 h]; exact fun hc => hn ⟨h, hc⟩))
    have hle := tw_le (s.data.toList.drop 0)
    rw [List.length_drop, lenS] at hle
    generalize hn : twN (s.data.toList.drop 0) = n at hle
    have HN := Lib.hid hn
    by_cases h1 : n < s.size ∧ n = 0
    · exact parts_0_bad0 s w hs h00 n HA HN lenS h1.2 h1.1
    · by_cases h2 : 1 < n ∧ ∃ h : 0 < s.size, s[0].toNat = 48
      · obtain ⟨h2, hA, hb⟩ := h2
        exact parts_0_bad1 s w hs h00 n HA HN lenS h2 (by omega) hA (by omega)
      · have h48 : Not48_0 s n := by
          rcases Nat.lt_or_ge 1 n with hh | hh
          · have hA : 0 < s.size := by omega
            exact .inr ⟨hh, hA, by rw [beq_eq_false_iff_ne]; intro hc; exact h2 ⟨hh, hA, by omega⟩⟩
          · exact .inl hh
        by_cases h3 : n = s.size
        · exact parts_0_end s w hs h00 n HA HN lenS h48 h3
        · exact parts_0_go s w hs h00 n HA HN lenS h48 (by omega) (by omega)

end Go.Proofs.YtonelabeflcplaaGreatDoor.Nm
namespace Go.Proofs.YtonelabeflcplaaGreatDoor.Nm

theorem allD_dig {l : List UInt8} (h : isB l = true) : (allD l).all dig = true := by
  obtain ⟨pt, et, hs⟩ := shape_of h
  unfold allD
  rw [List.all_append, hs.whole, hs.part]
  rfl
theorem dw_head (l : List UInt8) (c : UInt8) : (l.dropWhile (· == c)).head? ≠ some c := by
  induction l with
  | nil => simp
  | cons b l ih =>
    rw [List.dropWhile_cons]
    by_cases h : b = c
    · simp [h]; simpa using ih
    · have : (b == c) = false := by simpa using h
      rw [this]
      simpa using h
theorem trimR_last (l : List UInt8) (c : UInt8) : (Lib.trimRightB l c).getLast? ≠ some c := by
  unfold Lib.trimRightB
  rw [List.getLast?_reverse]
  exact dw_head _ _
theorem trimL_last (l : List UInt8) (c : UInt8) (h : l.getLast? ≠ some c) : (Lib.trimLeftB l c).getLast? ≠ some c := by
  unfold Lib.trimLeftB
  have hs := List.dropWhile_suffix (l := l) (· == c)
  obtain ⟨t, ht⟩ := hs
  generalize l.dropWhile (· == c) = d at *
  cases d with
  | nil => simp
  | cons x d =>
    rw [← ht, List.getLast?_append] at h
    simpa using h
theorem all_sub {l r : List UInt8} (h : l.all dig = true) (hr : ∀ x ∈ r, x ∈ l) : r.all dig = true :=
  List.all_eq_true.2 fun x hx => List.all_eq_true.1 h x (hr x hx)
theorem digs_can {l : List UInt8} (h : isB l = true) : (digsD l).head? ≠ some 48 ∧ (digsD l).getLast? ≠ some 48 ∧ (digsD l).all dig = true := by
  refine ⟨dw_head _ _, trimL_last _ _ (trimR_last _ _), all_sub (allD_dig h) fun x hx => ?_⟩
  have h1 : x ∈ rightD l := (List.dropWhile_suffix _).sublist.subset hx
  unfold rightD Lib.trimRightB at h1
  have h2 := (List.dropWhile_suffix _).sublist.subset (List.mem_reverse.1 h1)
  simpa using h2
theorem can_of {l : List UInt8} {v : Val} (h : readL l = some v) : CanV v := by
  unfold readL readE at h
  split at h
  · rename_i hc
    split at h
    · injection h with h
      have hd := digs_can hc.1
      rw [← h]
      unfold valE
      split
      · exact ⟨fun _ => ⟨rfl, rfl⟩, by simp, by simp, rfl⟩
      · rename_i hne
        exact ⟨fun hcc => absurd hcc hne, hd.1, hd.2.1, hd.2.2⟩
    · cases h
  · cases h
theorem ok_of {l : List UInt8} {v : Val} (h : readL l = some v) : okV v = true := by
  unfold readL readE at h
  split at h
  · split at h
    · rename_i hk
      injection h with h
      rw [← h]
      exact hk
    · cases h
  · cases h

/-! Numerals. -/
theorem decN_snoc (acc : Nat) (l : List UInt8) (b : UInt8) : decN acc (l ++ [b]) = 10 * decN acc l + (b.toNat - 48) := by
  induction l generalizing acc with
  | nil => rw [List.nil_append, decN_cons, decN_nil, decN_nil]
  | cons c l ih => rw [List.cons_append, decN_cons, ih, decN_cons]
theorem digit_ofNat (n : Nat) (h : n < 10) : (UInt8.ofNat (48 + n)).toNat = 48 + n := UInt8.toNat_ofNat_of_lt' (show 48 + n < 256 by omega)
theorem decDigits_ok (u : Nat) : decN 0 (Lib.decDigits u) = u ∧ (Lib.decDigits u).all dig = true ∧ Lib.decDigits u ≠ [] := by
  induction u using Nat.strongRecOn with
  | _ u ih =>
    by_cases h : u < 10
    · rw [Lib.decDigits, dif_pos h]
      refine ⟨?_, ?_, by simp⟩
      · rw [decN_cons, decN_nil, digit_ofNat u h]; omega
      · rw [List.all_cons, (dig_iff _).2 (by rw [digit_ofNat u h]; omega)]; rfl
    · have i := ih (u / 10) (by omega)
      rw [Lib.decDigits, dif_neg h]
      refine ⟨?_, ?_, by simp⟩
      · rw [decN_snoc, i.1, digit_ofNat (u % 10) (by omega)]; omega
      · rw [List.all_append, i.2.1, List.all_cons, (dig_iff _).2 (by rw [digit_ofNat (u % 10) (by omega)]; omega)]; rfl
theorem sgn_digits {l : List UInt8} (h : l.all dig = true) : sgn l = l := by
  cases l with
  | nil => rfl
  | cons b l =>
    rw [List.all_cons, Bool.and_eq_true] at h
    have := dig_range h.1
    unfold sgn
    have hp : ¬ (isPM b = true) := by rw [isPM_iff]; omega
    simp only [hp]
    rfl
theorem neg_digits {l : List UInt8} (h : l.all dig = true) : negL l = false := by
  cases l with
  | nil => rfl
  | cons b l =>
    rw [List.all_cons, Bool.and_eq_true] at h
    have := dig_range h.1
    exact decide_eq_false (by omega)
theorem itoa_ok (p : Int) : sgn (Lib.itoa p) ≠ [] ∧ (sgn (Lib.itoa p)).all dig = true ∧ eexp (Lib.itoa p) = p := by
  unfold Lib.itoa
  by_cases h : p < 0
  · rw [if_pos h]
    have d := decDigits_ok p.natAbs
    have e1 : sgn (45 :: Lib.decDigits p.natAbs) = Lib.decDigits p.natAbs := rfl
    refine ⟨by rw [e1]; exact d.2.2, by rw [e1]; exact d.2.1, ?_⟩
    unfold eexp
    rw [e1, d.1, show negL (45 :: Lib.decDigits p.natAbs) = true from rfl, if_pos rfl]
    omega
  · rw [if_neg h]
    have d := decDigits_ok p.toNat
    have e1 := sgn_digits d.2.1
    refine ⟨by rw [e1]; exact d.2.2, by rw [e1]; exact d.2.1, ?_⟩
    unfold eexp
    rw [e1, d.1, neg_digits d.2.1, if_neg (by decide)]
    omega

/-! The parts of a normal form. -/
theorem tw_app {D r : List UInt8} (h : D.all dig = true) (hr : ∀ b t, r = b :: t → dig b = false) : (D ++ r).takeWhile dig = D ∧ (D ++ r).dropWhile dig = r := by
  induction D with
  | nil =>
    cases r with
    | nil => exact ⟨rfl, rfl⟩
    | cons b t =>
      have := hr b t rfl
      rw [List.nil_append, List.takeWhile_cons, List.dropWhile_cons, this]
      exact ⟨rfl, rfl⟩
  | cons d D ih =>
    rw [List.all_cons, Bool.and_eq_true] at h
    rw [List.cons_append, List.takeWhile_cons, List.dropWhile_cons, h.1, if_pos rfl, if_pos rfl, (ih h.2).1, (ih h.2).2]
    exact ⟨rfl, rfl⟩
theorem tailI_cases (p : Int) : (p = 0 ∧ tailI p = []) ∨ (p ≠ 0 ∧ tailI p = 101 :: Lib.itoa p) := by
  unfold tailI
  by_cases h : p = 0
  · rw [if_pos h]; exact .inl ⟨h, rfl⟩
  · rw [if_neg h]; exact .inr ⟨h, rfl⟩
theorem parts_form {v : Val} (hc : CanV v) (hd : v.digs ≠ []) :
    negL (formL v) = v.neg ∧ parts (formL v) = ⟨v.digs, [], if v.pow = 0 then [] else Lib.itoa v.pow, true, true⟩ := by
  obtain ⟨n, D, p⟩ := v
  obtain ⟨_, h1, h2, h3⟩ := hc
  simp only at *
  have hf : formL ⟨n, D, p⟩ = (if n then [45] else []) ++ (D ++ tailI p) := by unfold formL; rw [if_neg hd]; simp
  have hneg : negL (formL ⟨n, D, p⟩) = n ∧ unsigned (formL ⟨n, D, p⟩) = D ++ tailI p := by
    rw [hf]
    cases n
    · have hx : negL (D ++ tailI p) = false := by
        cases D with
        | nil => exact absurd rfl hd
        | cons b D =>
          rw [List.all_cons, Bool.and_eq_true] at h3
          have := dig_range h3.1
          exact decide_eq_false (by omega)
      refine ⟨hx, ?_⟩
      unfold unsigned
      simp only [Bool.false_eq_true, if_false, List.nil_append]
      rw [hx]
      rfl
    · exact ⟨rfl, rfl⟩
  refine ⟨hneg.1, ?_⟩
  unfold parts
  rw [hneg.2]
  have htw := tw_app (D := D) (r := tailI p) h3 (by
    intro b t e
    rcases tailI_cases p with ⟨_, h⟩ | ⟨_, h⟩
    · rw [h] at e; cases e
    · rw [h] at e; injection e with e _; subst e; decide)
  unfold partsU
  rw [htw.1, htw.2, if_neg (fun h => hd h.2), if_neg (fun h => h1 h.2)]
  rcases tailI_cases p with ⟨h, e⟩ | ⟨h, e⟩
  · rw [e, if_pos h]
    unfold partsW
    rw [decide_eq_true hd]
  · rw [e, if_neg h]
    have i := itoa_ok p
    have e1 : partsW D (101 :: Lib.itoa p) = partsE D [] (Lib.itoa p) := by
      simp only [partsW, partsX]
      rw [if_neg (by decide), if_pos (by decide)]
    rw [e1]
    unfold partsE
    rw [if_pos i.2.1, decide_eq_true i.1]
theorem trimR_same {l : List UInt8} {c : UInt8} (h : l.getLast? ≠ some c) : Lib.trimRightB l c = l := by
  unfold Lib.trimRightB
  have h2 : l.reverse.head? ≠ some c := by rwa [List.head?_reverse]
  have : l.reverse.dropWhile (· == c) = l.reverse := by
    generalize l.reverse = r at *
    cases r with
    | nil => rfl
    | cons b r =>
      have hb : (b == c) = false := by simpa using h2
      rw [List.dropWhile_cons, hb]
      rfl
  rw [this, List.reverse_reverse]
theorem trimL_same {l : List UInt8} {c : UInt8} (h : l.head? ≠ some c) : Lib.trimLeftB l c = l := by
  unfold Lib.trimLeftB
  cases l with
  | nil => rfl
  | cons b r =>
    have hb : (b == c) = false := by simpa using h
    rw [List.dropWhile_cons, hb]
    rfl
/-- A normal form is read as the value that it is the form of. -/
theorem read_form {v : Val} (hc : CanV v) (hk : okV v = true) : readL (formL v) = some v := by
  by_cases hd : v.digs = []
  · have h0 := hc.1 hd
    obtain ⟨n, D, p⟩ := v
    simp only at hd h0
    obtain ⟨rfl, rfl⟩ := h0
    subst hd
    decide +kernel
  · obtain ⟨h1, h2⟩ := parts_form hc hd
    have his : isB (formL v) = true := by rw [← parts_is, h2]
    have hlen : (formL v).length ≤ 30 := (of_decide_eq_true hk).2.2
    have hall : allD (formL v) = v.digs := by unfold allD; rw [h2]; simp
    have hr : rightD (formL v) = v.digs := by unfold rightD; rw [hall]; exact trimR_same hc.2.2.1
    have hdg : digsD (formL v) = v.digs := by unfold digsD; rw [hr]; exact trimL_same hc.2.1
    have hexp : eexp (parts (formL v)).tail = v.pow := by
      rw [h2]
      simp only
      by_cases hz : v.pow = 0
      · rw [if_pos hz, hz]; decide
      · rw [if_neg hz]; exact (itoa_ok _).2.2
    have hval : valE (formL v) (eexp (parts (formL v)).tail) = v := by
      unfold valE
      rw [hdg, if_neg hd, h1]
      have : powD (formL v) (eexp (parts (formL v)).tail) = v.pow := by
        unfold powD
        rw [hall, hr, hexp, h2]
        simp
      rw [this]
    unfold readL readE
    rw [if_pos ⟨his, hlen⟩, hval, hk]
    rfl
theorem form_is {v : Val} (hc : CanV v) (hk : okV v = true) : isB (formL v) = true := by
  have h := read_form hc hk
  unfold readL readE at h
  split at h
  · rename_i h2; exact h2.1
  · cases h
theorem form_inj {x y : Val} (hx : CanV x) (kx : okV x = true) (hy : CanV y) (ky : okV y = true) : formL x = formL y ↔ x = y := by
  constructor
  · intro h
    have a := read_form hx kx
    rw [h, read_form hy ky] at a
    injection a with a
    exact a.symm
  · intro h; rw [h]
theorem cmp_form {x y : Val} (hx : CanV x) (kx : okV x = true) (hy : CanV y) (ky : okV y = true) : cmpV x y = 0 ↔ formL x = formL y := by
  rw [form_inj hx kx hy ky]
  constructor
  · exact cmpV_zero hx hy
  · intro h; rw [h]; exact cmpV_self y
end Go.Proofs.YtonelabeflcplaaGreatDoor.Nm
