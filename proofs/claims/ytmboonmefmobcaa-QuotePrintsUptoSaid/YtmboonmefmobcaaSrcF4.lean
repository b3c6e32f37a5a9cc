/-
  The reference's One where the character has four bytes by its first.
-/
import Derived.Test.YtmboonmefmobcaaSrcF
namespace Go.Proofs.Ytmboonmefmobcaa
open Go.RowKit
set_option maxRecDepth 100000

set_option maxHeartbeats 1000000 in
theorem one_4b (s : ByteArray) (w : World) (hm : s.size ≤ 140737488355328) (h : 0 < s.size) (a : 240 ≤ (s[0].toNat : Int)) (b : (s[0].toNat : Int) < 248) (hs : 4 ≤ s.size)
    (hone : oneL s.data.toList = oneFin 4 (tails ((s[0].toNat : Int) - 240) ((s.data.toList.drop 1).take 3))) :
    Calls Try.prog 23 #[.string s] w fun e w' => OneEnd s.data.toList e ∧ w = w' := by
  have hb : ((s.size : Int) == 0) = false := beq_eq_false_iff_ne.2 (by omega)
  have HO := Lib.hid hone
  clear hone
  go_enter Try.func23, Try.ntmps23
  go_wp2
  generalize hV : (s[0].toNat : Int) - 240 = V at *
  have hV0 : 0 ≤ V ∧ V < 64 := by omega
  have HV := Lib.hid hV
  clear hV
  go_loop [6, 7] (fun u i => ∃ (k : Nat) (x : Int), 1 ≤ k ∧ k ≤ 4 ∧ i = .int .i64 k ∧ u = .int .i64 x ∧ 0 ≤ x ∧ x < ((64 ^ k : Nat) : Int) ∧ Hid (tails V ((s.data.toList.drop 1).take (k - 1)) = some x)) (fun _ i => 4 - (intOf i).toNat)
  case atStart => exact ⟨1, V, by omega, by omega, rfl, rfl, hV0.1, hV0.2, Lib.hid rfl⟩
  case round =>
    obtain ⟨k, x, hk1, hk, rfl, rfl, hx0, hx1, HT⟩ := hrel
    by_cases hlt : k < 4
    · have hbt := bytes_take s k hk1 (by omega)
      have hsn := tails_snoc V ((s.data.toList.drop 1).take (k - 1)) s[k]
      rw [← hbt, HT.out] at hsn
      simp only [Option.bind_some] at hsn
      have HS := Lib.hid hsn
      clear hsn hbt
      have hpow : ((64 ^ (k + 1) : Nat) : Int) = 64 * ((64 ^ k : Nat) : Int) := by rw [Nat.pow_succ]; omega
      have hpw := Lib.hid hpow
      clear hpow
      have hp4 : ((64 ^ k : Nat) : Int) ≤ 262144 := by
        have : 64 ^ k ≤ 64 ^ 3 := Nat.pow_le_pow_right (by decide) (by omega)
        omega
      have hle := byte_le s[k]
      by_cases hd : (s[k].toNat : Int) < 128
      · go_wp2
        go_ret2
        have hnone : tails V ((s.data.toList.drop 1).take 3) = none := tails_none_take _ _ k _ (by omega) (by rw [HS.out, if_pos (.inl hd)])
        refine ⟨oneEnd_of ?_, rfl⟩
        rw [HO.out, hnone]; rfl
      by_cases hd2 : (s[k].toNat : Int) < 192
      · have hx2 : x ≤ 262143 := by omega
        go_wp2
        go_round
        case rel => exact ⟨k + 1, 64 * x + (s[k].toNat : Int) - 128, by omega, by omega, by go_num, by first | rfl | go_num, by omega, by rw [hpw.out]; omega, Lib.hid (by rw [Nat.add_sub_cancel, HS.out, if_neg (by omega)])⟩
        case measure => simp [intOf]; omega
      · have hd3 : 192 ≤ (s[k].toNat : Int) := by omega
        go_wp2
        go_ret2
        have hnone : tails V ((s.data.toList.drop 1).take 3) = none := tails_none_take _ _ k _ (by omega) (by rw [HS.out, if_pos (.inr hd3)])
        refine ⟨oneEnd_of ?_, rfl⟩
        rw [HO.out, hnone]; rfl
    · have hkN : k = 4 := by omega
      subst hkN
      have hfin : oneL s.data.toList = oneFin 4 (some x) := by rw [HO.out]; exact congrArg _ HT.out
      clear HO HT
      have HF := Lib.hid hfin
      clear hfin
      by_cases hmy : mayB x = true
      · have HM := Lib.hid hmy
        clear hmy
        by_cases hlg : longI x = 4
        · have hne : (longI x != 4) = false := by simp [hlg]
          have HL := Lib.hid hlg
          clear hlg
          go_wp2_with (first
            | (go_at_call 28; refine (may_any _ _).mono ?_; rintro e w' ⟨rfl, rfl⟩; rw [HM.out])
            | (go_at_call 29; refine (long_any _ _).mono ?_; rintro e w' ⟨rfl, rfl⟩))
          go_ret2
          exact ⟨oneEnd_of (by rw [HF.out]; exact if_pos ⟨HM.out, HL.out⟩), rfl⟩
        · have hne : (longI x != 4) = true := bne_iff_ne.2 hlg
          go_wp2_with (first
            | (go_at_call 28; refine (may_any _ _).mono ?_; rintro e w' ⟨rfl, rfl⟩; rw [HM.out])
            | (go_at_call 29; refine (long_any _ _).mono ?_; rintro e w' ⟨rfl, rfl⟩))
          go_ret2
          exact ⟨oneEnd_of (by rw [HF.out]; exact if_neg (fun h => hlg h.2)), rfl⟩
      · have hmf : mayB x = false := by simpa using hmy
        have HM := Lib.hid hmf
        clear hmf
        have HM2 := Lib.hid hmy
        clear hmy
        go_wp2_with (first
          | (go_at_call 28; refine (may_any _ _).mono ?_; rintro e w' ⟨rfl, rfl⟩; rw [HM.out]))
        go_ret2
        exact ⟨oneEnd_of (by rw [HF.out]; exact if_neg (fun h => HM2.out h.1)), rfl⟩

end Go.Proofs.Ytmboonmefmobcaa
