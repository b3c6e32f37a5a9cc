/-
  The reference's One where the character has three bytes by its first.
  The reference's One where the character has four bytes by its first.
  The reference's One and Runes, whole; 'same' of two lists.
  'same' of two lists of whole numbers (hexaplalaw01).
  The contract of src's payload: the bits of a byte that tell of its character.
  src's Runes.
  names: Cut and Join of the program.
-/
import Derived.Test.YtfilonbhcalkoaaGreatDoorTrM09
import Derived.Test.YtfilonbhcalkoaaGreatDoorTrM06
import Derived.Lib.Strings
import Derived.BigQuiet
import Derived.Deep.QuietTactic
import Derived.Test.YtfilonbhcalkoaaGreatDoorTrM07
namespace Go.Proofs.YtfilonbhcalkoaaGreatDoor
open Go.RowKit
set_option maxRecDepth 100000

set_option maxHeartbeats 1000000 in
theorem one_3b (s : ByteArray) (w : World) (hm : s.size ≤ 140737488355328) (h : 0 < s.size) (a : 224 ≤ (s[0].toNat : Int)) (b : (s[0].toNat : Int) < 240) (hs : 3 ≤ s.size)
    (hone : oneL s.data.toList = oneFin 3 (tails ((s[0].toNat : Int) - 224) ((s.data.toList.drop 1).take 2))) :
    Calls Tryz.prog 91 #[.string s] w fun e w' => OneEnd s.data.toList e ∧ w = w' := by
  have hb : ((s.size : Int) == 0) = false := beq_eq_false_iff_ne.2 (by omega)
  have HO := Lib.hid hone
  clear hone
  go_enter Tryz.func91, Tryz.ntmps91
  go_wp2
  generalize hV : (s[0].toNat : Int) - 224 = V at *
  have hV0 : 0 ≤ V ∧ V < 64 := by omega
  have HV := Lib.hid hV
  clear hV
  go_loop [6, 7] (fun u i => ∃ (k : Nat) (x : Int), 1 ≤ k ∧ k ≤ 3 ∧ i = .int .i64 k ∧ u = .int .i64 x ∧ 0 ≤ x ∧ x < ((64 ^ k : Nat) : Int) ∧ Hid (tails V ((s.data.toList.drop 1).take (k - 1)) = some x)) (fun _ i => 3 - (intOf i).toNat)
  case atStart => exact ⟨1, V, by omega, by omega, rfl, rfl, hV0.1, hV0.2, Lib.hid rfl⟩
  case round =>
    obtain ⟨k, x, hk1, hk, rfl, rfl, hx0, hx1, HT⟩ := hrel
    by_cases hlt : k < 3
    · have hbt := bytes_take s k hk1 (by omega)
      have hsn := tails_snoc V ((s.data.toList.drop 1).take (k - 1)) s[k]
      rw [← hbt, HT.out] at hsn
      simp only [Option.bind_some] at hsn
      have HS := Lib.hid hsn
      clear hsn hbt
      have hpow : ((64 ^ (k + 1) : Nat) : Int) = 64 * ((64 ^ k : Nat) : Int) := by rw [Nat.pow_succ]; omega
      have hpw := Lib.hid hpow
      clear hpow
      have hp4 : ((64 ^ k : Nat) : Int) ≤ 262144 := by
        have : 64 ^ k ≤ 64 ^ 3 := Nat.pow_le_pow_right (by decide) (by omega)
        omega
      have hle := byte_le s[k]
      by_cases hd : (s[k].toNat : Int) < 128
      · go_wp2
        go_ret2
        have hnone : tails V ((s.data.toList.drop 1).take 2) = none := tails_none_take _ _ k _ (by omega) (by rw [HS.out, if_pos (.inl hd)])
        refine ⟨oneEnd_of ?_, rfl⟩
        rw [HO.out, hnone]; rfl
      by_cases hd2 : (s[k].toNat : Int) < 192
      · have hx2 : x ≤ 262143 := by omega
        go_wp2
        go_round
        case rel => exact ⟨k + 1, 64 * x + (s[k].toNat : Int) - 128, by omega, by omega, by go_num, by first | rfl | go_num, by omega, by rw [hpw.out]; omega, Lib.hid (by rw [Nat.add_sub_cancel, HS.out, if_neg (by omega)])⟩
        case measure => simp [intOf]; omega
      · have hd3 : 192 ≤ (s[k].toNat : Int) := by omega
        go_wp2
        go_ret2
        have hnone : tails V ((s.data.toList.drop 1).take 2) = none := tails_none_take _ _ k _ (by omega) (by rw [HS.out, if_pos (.inr hd3)])
        refine ⟨oneEnd_of ?_, rfl⟩
        rw [HO.out, hnone]; rfl
    · have hkN : k = 3 := by omega
      subst hkN
      have hfin : oneL s.data.toList = oneFin 3 (some x) := by rw [HO.out]; exact congrArg _ HT.out
      clear HO HT
      have HF := Lib.hid hfin
      clear hfin
      by_cases hmy : mayB x = true
      · have HM := Lib.hid hmy
        clear hmy
        by_cases hlg : longI x = 3
        · have hne : (longI x != 3) = false := by simp [hlg]
          have HL := Lib.hid hlg
          clear hlg
          go_wp2_with (first
            | (go_at_call 105; refine (may_any _ _).mono ?_; rintro e w' ⟨rfl, rfl⟩; rw [HM.out])
            | (go_at_call 106; refine (long_any _ _).mono ?_; rintro e w' ⟨rfl, rfl⟩))
          go_ret2
          exact ⟨oneEnd_of (by rw [HF.out]; exact if_pos ⟨HM.out, HL.out⟩), rfl⟩
        · have hne : (longI x != 3) = true := bne_iff_ne.2 hlg
          go_wp2_with (first
            | (go_at_call 105; refine (may_any _ _).mono ?_; rintro e w' ⟨rfl, rfl⟩; rw [HM.out])
            | (go_at_call 106; refine (long_any _ _).mono ?_; rintro e w' ⟨rfl, rfl⟩))
          go_ret2
          exact ⟨oneEnd_of (by rw [HF.out]; exact if_neg (fun h => hlg h.2)), rfl⟩
      · have hmf : mayB x = false := by simpa using hmy
        have HM := Lib.hid hmf
        clear hmf
        have HM2 := Lib.hid hmy
        clear hmy
        go_wp2_with (first
          | (go_at_call 105; refine (may_any _ _).mono ?_; rintro e w' ⟨rfl, rfl⟩; rw [HM.out]))
        go_ret2
        exact ⟨oneEnd_of (by rw [HF.out]; exact if_neg (fun h => HM2.out h.1)), rfl⟩

end Go.Proofs.YtfilonbhcalkoaaGreatDoor
namespace Go.Proofs.YtfilonbhcalkoaaGreatDoor
open Go.RowKit
set_option maxRecDepth 100000

set_option maxHeartbeats 1000000 in
theorem one_4b (s : ByteArray) (w : World) (hm : s.size ≤ 140737488355328) (h : 0 < s.size) (a : 240 ≤ (s[0].toNat : Int)) (b : (s[0].toNat : Int) < 248) (hs : 4 ≤ s.size)
    (hone : oneL s.data.toList = oneFin 4 (tails ((s[0].toNat : Int) - 240) ((s.data.toList.drop 1).take 3))) :
    Calls Tryz.prog 91 #[.string s] w fun e w' => OneEnd s.data.toList e ∧ w = w' := by
  have hb : ((s.size : Int) == 0) = false := beq_eq_false_iff_ne.2 (by omega)
  have HO := Lib.hid hone
  clear hone
  go_enter Tryz.func91, Tryz.ntmps91
  go_wp2
  generalize hV : (s[0].toNat : Int) - 240 = V at *
  have hV0 : 0 ≤ V ∧ V < 64 := by omega
  have HV := Lib.hid hV
  clear hV
  go_loop [6, 7] (fun u i => ∃ (k : Nat) (x : Int), 1 ≤ k ∧ k ≤ 4 ∧ i = .int .i64 k ∧ u = .int .i64 x ∧ 0 ≤ x ∧ x < ((64 ^ k : Nat) : Int) ∧ Hid (tails V ((s.data.toList.drop 1).take (k - 1)) = some x)) (fun _ i => 4 - (intOf i).toNat)
  case atStart => exact ⟨1, V, by omega, by omega, rfl, rfl, hV0.1, hV0.2, Lib.hid rfl⟩
  case round =>
    obtain ⟨k, x, hk1, hk, rfl, rfl, hx0, hx1, HT⟩ := hrel
    by_cases hlt : k < 4
    · have hbt := bytes_take s k hk1 (by omega)
      have hsn := tails_snoc V ((s.data.toList.drop 1).take (k - 1)) s[k]
      rw [← hbt, HT.out] at hsn
      simp only [Option.bind_some] at hsn
      have HS := Lib.hid hsn
      clear hsn hbt
      have hpow : ((64 ^ (k + 1) : Nat) : Int) = 64 * ((64 ^ k : Nat) : Int) := by rw [Nat.pow_succ]; omega
      have hpw := Lib.hid hpow
      clear hpow
      have hp4 : ((64 ^ k : Nat) : Int) ≤ 262144 := by
        have : 64 ^ k ≤ 64 ^ 3 := Nat.pow_le_pow_right (by decide) (by omega)
        omega
      have hle := byte_le s[k]
      by_cases hd : (s[k].toNat : Int) < 128
      · go_wp2
        go_ret2
        have hnone : tails V ((s.data.toList.drop 1).take 3) = none := tails_none_take _ _ k _ (by omega) (by rw [HS.out, if_pos (.inl hd)])
        refine ⟨oneEnd_of ?_, rfl⟩
        rw [HO.out, hnone]; rfl
      by_cases hd2 : (s[k].toNat : Int) < 192
      · have hx2 : x ≤ 262143 := by omega
        go_wp2
        go_round
        case rel => exact ⟨k + 1, 64 * x + (s[k].toNat : Int) - 128, by omega, by omega, by go_num, by first | rfl | go_num, by omega, by rw [hpw.out]; omega, Lib.hid (by rw [Nat.add_sub_cancel, HS.out, if_neg (by omega)])⟩
        case measure => simp [intOf]; omega
      · have hd3 : 192 ≤ (s[k].toNat : Int) := by omega
        go_wp2
        go_ret2
        have hnone : tails V ((s.data.toList.drop 1).take 3) = none := tails_none_take _ _ k _ (by omega) (by rw [HS.out, if_pos (.inr hd3)])
        refine ⟨oneEnd_of ?_, rfl⟩
        rw [HO.out, hnone]; rfl
    · have hkN : k = 4 := by omega
      subst hkN
      have hfin : oneL s.data.toList = oneFin 4 (some x) := by rw [HO.out]; exact congrArg _ HT.out
      clear HO HT
      have HF := Lib.hid hfin
      clear hfin
      by_cases hmy : mayB x = true
      · have HM := Lib.hid hmy
        clear hmy
        by_cases hlg : longI x = 4
        · have hne : (longI x != 4) = false := by simp [hlg]
          have HL := Lib.hid hlg
          clear hlg
          go_wp2_with (first
            | (go_at_call 105; refine (may_any _ _).mono ?_; rintro e w' ⟨rfl, rfl⟩; rw [HM.out])
            | (go_at_call 106; refine (long_any _ _).mono ?_; rintro e w' ⟨rfl, rfl⟩))
          go_ret2
          exact ⟨oneEnd_of (by rw [HF.out]; exact if_pos ⟨HM.out, HL.out⟩), rfl⟩
        · have hne : (longI x != 4) = true := bne_iff_ne.2 hlg
          go_wp2_with (first
            | (go_at_call 105; refine (may_any _ _).mono ?_; rintro e w' ⟨rfl, rfl⟩; rw [HM.out])
            | (go_at_call 106; refine (long_any _ _).mono ?_; rintro e w' ⟨rfl, rfl⟩))
          go_ret2
          exact ⟨oneEnd_of (by rw [HF.out]; exact if_neg (fun h => hlg h.2)), rfl⟩
      · have hmf : mayB x = false := by simpa using hmy
        have HM := Lib.hid hmf
        clear hmf
        have HM2 := Lib.hid hmy
        clear hmy
        go_wp2_with (first
          | (go_at_call 105; refine (may_any _ _).mono ?_; rintro e w' ⟨rfl, rfl⟩; rw [HM.out]))
        go_ret2
        exact ⟨oneEnd_of (by rw [HF.out]; exact if_neg (fun h => HM2.out h.1)), rfl⟩

end Go.Proofs.YtfilonbhcalkoaaGreatDoor
namespace Go.Proofs.YtfilonbhcalkoaaGreatDoor
open Go.RowKit
set_option maxRecDepth 100000

theorem one_lead (s : ByteArray) (h : 0 < s.size) (n : Nat) (v : Int) (e1 : leadN s[0].toNat = n) (e2 : leadV s[0].toNat = v) (h0 : 128 ≤ (s[0].toNat : Int)) (hn : 1 ≤ n) (hs : n ≤ s.size) :
    oneL s.data.toList = oneFin n (tails v ((s.data.toList.drop 1).take (n - 1))) := by
  have hz : ((s.data.toList.drop 1).length : Int) + 1 = s.size := by simp; omega
  have e0 := bytes_cons s h
  generalize s.data.toList.drop 1 = T at *
  rw [e0, oneL, if_neg (by omega), e1, e2, if_neg (by omega), show ((n : Int) - 1).toNat = n - 1 from by omega]
  cases tails v (T.take (n - 1)) <;> rfl

theorem one_end (s : ByteArray) (w : World) (hm : s.size ≤ 140737488355328) :
    Calls Tryz.prog 91 #[.string s] w fun e w' => OneEnd s.data.toList e ∧ w = w' := by
  by_cases h : s.size = 0
  · exact one_0 s w h
  have h : 0 < s.size := by omega
  by_cases h1 : (s[0].toNat : Int) < 128
  · exact one_1 s w hm h h1
  by_cases h2 : (s[0].toNat : Int) < 192 ∨ 248 ≤ (s[0].toNat : Int)
  · exact one_bad s w hm h (by omega) h2
  by_cases h3 : (s.size : Int) < leadN s[0].toNat
  · exact one_short s w hm h (by omega) (by omega) h3
  by_cases c2 : (s[0].toNat : Int) < 224
  · have e1 : leadN s[0].toNat = 2 := by unfold leadN; rw [if_pos (by omega)]
    have e2 : leadV s[0].toNat = s[0].toNat - 192 := by unfold leadV; rw [if_pos (by omega)]
    exact one_2b s w hm h (by omega) c2 (by omega) (one_lead s h 2 _ e1 e2 (by omega) (by omega) (by omega))
  by_cases c3 : (s[0].toNat : Int) < 240
  · have e1 : leadN s[0].toNat = 3 := by unfold leadN; rw [if_neg (by omega), if_pos (by omega)]
    have e2 : leadV s[0].toNat = s[0].toNat - 224 := by unfold leadV; rw [if_neg (by omega), if_pos (by omega)]
    exact one_3b s w hm h (by omega) c3 (by omega) (one_lead s h 3 _ e1 e2 (by omega) (by omega) (by omega))
  · have e1 : leadN s[0].toNat = 4 := by unfold leadN; rw [if_neg (by omega), if_neg (by omega), if_pos (by omega)]
    have e2 : leadV s[0].toNat = s[0].toNat - 240 := by unfold leadV; rw [if_neg (by omega), if_neg (by omega), if_pos (by omega)]
    exact one_4b s w hm h (by omega) (by omega) (by omega) (one_lead s h 4 _ e1 e2 (by omega) (by omega) (by omega))
theorem one_any (s : ByteArray) (w : World) (hm : s.size ≤ 140737488355328) :
    Calls Tryz.prog 91 #[.string s] w fun e w' => e = .returned (.tuple #[.int .i64 (oneL s.data.toList).1, .int .i64 (oneL s.data.toList).2]) ∧ w = w' := one_end s w hm

/-- What Runes leaves, by what the bytes are. -/
def RunesPost (w : World) (l : List UInt8) (e : Ending) (w' : World) : Prop :=
  ∃ v, e = .returned (.tuple #[v, .bool (runesL l).isSome]) ∧ ORow w' w.heap.size 3 v (((runesL l).getD []).map iV) ∧ Below w.heap.size w w'

theorem runesPost_some {w wr : World} {v : Value} {out : List Int} {l : List UInt8} (h : runesL l = some out) (ho : ORow wr w.heap.size 3 v (out.map iV)) (hb : Below w.heap.size w wr) : RunesPost w l (.returned (.tuple #[v, .bool true])) wr :=
  ⟨v, by rw [h]; rfl, by rw [h]; exact ho, hb⟩
theorem runesPost_none {w wr : World} {l : List UInt8} (h : runesL l = none) (hb : Below w.heap.size w wr) : RunesPost w l (.returned (.tuple #[.slice none 0 0, .bool false])) wr :=
  ⟨_, by rw [h]; rfl, by rw [h]; exact ORow.nil _ _ _, hb⟩

def strSize : Value → Nat | .string s => s.size | _ => 0
set_option maxHeartbeats 1000000 in
theorem rrunes_any (s : ByteArray) (w : World) (hm : s.size ≤ 1099511627776) :
    Calls Tryz.prog 81 #[.string s] w (RunesPost w s.data.toList) := by
  go_enter Tryz.func81, Tryz.ntmps81
  go_wp2
  go_loopw [0, 4] (fun t v wr => ∃ (s' : ByteArray) (out : List Int), t = .string s' ∧ s'.size + out.length ≤ s.size ∧ ORow wr w.heap.size 3 v (out.map iV) ∧ Below w.heap.size w wr ∧ Hid (runesL s.data.toList = runesGo (rn0 out) s'.data.toList)) (fun t _ _ => strSize t)
  case atStart => exact ⟨s, [], rfl, by simp, ORow.nil _ _ _, Below.refl _ _, Lib.hid rfl⟩
  case round =>
    obtain ⟨s', out, rfl, hsz, hown, hbel, HR⟩ := hrel
    by_cases hpos : 0 < s'.size
    · have hcs := charStep out s'[0] (s'.data.toList.drop 1)
      rw [← bytes_cons s' hpos] at hcs
      unfold CharStep at hcs
      by_cases hz : (oneL s'.data.toList).2 = 0
      · rw [if_pos hz] at hcs
        have hnone : runesL s.data.toList = none := by rw [HR.out, hcs]
        have HN := Lib.hid hnone
        clear hnone hcs
        have hbz : ((oneL s'.data.toList).2 == 0) = true := beq_iff_eq.2 hz
        have HZ := Lib.hid hz
        clear hz
        go_wp2_with (first
          | (go_at_call 91; refine (one_any _ _ (by omega)).mono ?_; rintro e w' ⟨rfl, rfl⟩))
        go_ret2
        exact runesPost_none HN.out hbel
      · rw [if_neg hz] at hcs
        obtain ⟨h1, h2, h3⟩ := hcs
        have HC := Lib.hid h3
        clear h3
        have hbz : ((oneL s'.data.toList).2 == 0) = false := beq_eq_false_iff_ne.2 hz
        clear hz
        generalize hO : oneL s'.data.toList = O at *
        have HOO := Lib.hid hO
        clear hO
        rw [show s'.data.toList.length = s'.size from by simp] at h2
        have hbs := hbel.size
        go_wp2_with (first
          | (go_at_call 91; refine (one_any _ _ (by omega)).mono ?_; rintro e w' ⟨rfl, rfl⟩; rw [HOO.out])
          | (at_builtin; refine wp_app1b rfl _ _ 37 rfl w.heap.size 3 (.int .i64 0) 8 Tryz.underlying37 Tryz.info3 rfl _ _ _ rfl (by exact hown) rfl _ rfl (by simp [maxLen]; omega) (by simp; omega) hbs ?_; intro v1 w1 hown1 hb1))
        have hrow : ORow w1 w.heap.size 3 v1 ((out ++ [O.1]).map iV) := by simpa [iV] using hown1
        have hbel1 := hbel.trans (hb1.mono (Nat.le_refl _))
        clear hown hown1 hb1
        go_roundw
        case rel =>
          refine ⟨_, out ++ [O.1], rfl, ?_, hrow, hbel1, Lib.hid ?_⟩
          · simp
            omega
          · rw [HR.out, HC.out, extract_all]
        case measure => simp [strSize]; omega
    · have hz : s'.size = 0 := by omega
      have hl : s'.data.toList = [] := List.eq_nil_of_length_eq_zero (by simpa using hz)
      have hsome : runesL s.data.toList = some out := by rw [HR.out, hl]; rfl
      have HN := Lib.hid hsome
      clear hsome hl hz
      go_wp2
      go_ret2
      exact runesPost_some HN.out hown hbel

end Go.Proofs.YtfilonbhcalkoaaGreatDoor
namespace Go.Proofs.YtfilonbhcalkoaaGreatDoor
open Go.RowKit
set_option maxRecDepth 100000

end Go.Proofs.YtfilonbhcalkoaaGreatDoor
namespace Go.Proofs.YtfilonbhcalkoaaGreatDoor
open Go.RowKit

theorem pay_any (b : Int) (h0 : 0 ≤ b) (h1 : b ≤ 255) (w : World) :
    Calls Tryz.prog 80 #[.int .u8 b] w fun e w' => e = .returned (.int .i64 (payI b)) ∧ w = w' := by
  have e6 := u8_and63 b h0 (show b < 256 by omega)
  have e5 := u8_and31 b h0 (show b < 256 by omega)
  have e4 := u8_and15 b h0 (show b < 256 by omega)
  have e3 := u8_and7 b h0 (show b < 256 by omega)
  go_enter Tryz.func80, Tryz.ntmps80
  go_wp2
  all_goals go_ret
  all_goals refine ⟨ret_int ?_, rfl⟩
  all_goals simp only [payI]
  all_goals repeat (first | rw [if_pos (by omega)] | rw [if_neg (by omega)])
end Go.Proofs.YtfilonbhcalkoaaGreatDoor
namespace Go.Proofs.YtfilonbhcalkoaaGreatDoor
open Go.RowKit
set_option maxRecDepth 100000

theorem num_join (st : Rn) (h : RnInv st) (c : Int) (h0 : 0 ≤ c) (h1 : c ≤ 255) (hok : stOk st.l st.lo st.hi c = true) : bits .or .i64 (st.num * 64) (payI c) = st.num * 64 + payI c := by
  rcases h with ⟨hl, hn⟩ | ⟨hl, hl3, hn0, hlo, hhi, h3, h2, h1'⟩
  · have hp : 0 ≤ payI c ∧ payI c < 128 := by unfold payI; repeat' split <;> omega
    rw [hn]
    exact bits_join .i64 63 (by decide) (fun n a b => by rw [IntKind.wrap_i64]; omega) 7 (0 * 64) (payI c) (by decide) (by decide) (by decide) hp.1 (by omega) (by omega)
  · have hl0 : 0 < st.l := by omega
    simp only [stOk, hl0, if_true, decide_eq_true_eq] at hok
    have hp : payI c = c % 64 := by unfold payI; rw [if_neg (by omega), if_pos (by omega)]
    have hb : st.num < 32768 := by
      rcases (show st.l = 1 ∨ st.l = 2 ∨ st.l = 3 from by omega) with h | h | h
      · exact h1' h
      · have := h2 h; omega
      · have := h3 h; omega
    exact bits_join .i64 63 (by decide) (fun n a b => by rw [IntKind.wrap_i64]; omega) 6 (st.num * 64) (payI c) (by omega) (by omega) (by omega) (by omega) (by omega) (by omega)

set_option maxHeartbeats 1000000 in
theorem runes_any (s : ByteArray) (w : World) (hm : s.size ≤ 1099511627776) :
    Calls Tryz.prog 67 #[.string s] w (RunesPost w s.data.toList) := by
  go_enter Tryz.func67, Tryz.ntmps67
  go_wp2_with (first
    | (go_at_call 73; refine (new_any _).mono ?_; rintro e w' ⟨rfl, rfl⟩))
  go_loopw [4, 6, 11] (fun v nm i wr => ∃ (k : Nat) (st : Rn), k ≤ s.size ∧ i = .int .i64 k ∧ nm = .int .i64 st.num ∧ ScanAt wr w.heap.size st.l st.lo st.hi ∧ ORow wr (w.heap.size + 1) 3 v (st.out.map iV) ∧ Below w.heap.size w wr ∧ RnInv st ∧ st.out.length ≤ k ∧ Hid (runesL s.data.toList = runesGo st (s.data.toList.drop k))) (fun _ _ i _ => s.size - (intOf i).toNat)
  case atStart => exact ⟨0, rn0 [], Nat.zero_le _, rfl, rfl, Blk.new w _ _, ORow.nil _ _ _, (Below.refl _ _).alloc (Nat.le_refl _) _, .inl ⟨rfl, rfl⟩, by simp [rn0], Lib.hid rfl⟩
  case round =>
    obtain ⟨k, st, hk, rfl, rfl, hsc, hown, hbel, hinv, hlen, HR⟩ := hrel
    have hl03 : 0 ≤ st.l ∧ st.l ≤ 3 := by rcases hinv with ⟨a, _⟩ | ⟨a, b, _⟩ <;> omega
    by_cases hlt : k < s.size
    · have hle := byte_le s[k]
      have hdc := drop_cons s k hlt
      by_cases hok : stOk st.l st.lo st.hi s[k].toNat = true
      · have HK := Lib.hid hok
        have hj := num_join st hinv s[k].toNat (by omega) hle hok
        clear hok
        go_wp2_with fail
        refine (step_any _ _ _ _ _ _ hsc hl03.1 hl03.2 (by omega) hle).mono ?_
        rintro e w1 ⟨rfl, hg1, hs1⟩
        rw [HK.out]
        rw [if_pos HK.out] at hs1
        have hnb : 0 ≤ st.num ∧ st.num < 32768 := by
          rcases hinv with ⟨_, a⟩ | ⟨a, b, c, _, _, d3, d2, d1⟩
          · omega
          · refine ⟨c, ?_⟩
            rcases (show st.l = 1 ∨ st.l = 2 ∨ st.l = 3 from by omega) with h | h | h
            · exact d1 h
            · have := d2 h; omega
            · have := d3 h; omega
        obtain ⟨hn0, hn1⟩ := hnb
        have HJ := Lib.hid hj
        clear hj
        go_wp2_with fail
        refine (pay_any _ (by omega) hle _).mono ?_
        rintro e w' ⟨rfl, rfl⟩
        go_wp2_with fail
        rw [HJ.out]
        have hrow1 : ORow w1 (w.heap.size + 1) 3 u4 (st.out.map iV) := hown.kept_far hg1 (by omega)
        have hbel1 : Below w.heap.size w w1 := below_only hbel hg1 hbel.size (Nat.le_refl _)
        have hbs1 : w.heap.size + 1 ≤ w1.heap.size := by have := hg1.size; have := hsc.lt; omega
        have hgo : runesL s.data.toList = match rnStep st (s[k].toNat : Int) with | none => none | some s' => runesGo s' (s.data.toList.drop (k + 1)) := by rw [HR.out, hdc]; rfl
        have hle' : 0 ≤ (s[k].toNat : Int) := by omega
        clear hg1 hsc hown hbel hdc
        by_cases hz : stL st.l s[k].toNat = 0
        · have hst : rnStep st (s[k].toNat : Int) = some ⟨stL st.l s[k].toNat, stLo st.l s[k].toNat, stHi st.l s[k].toNat, 0, st.out ++ [st.num * 64 + payI s[k].toNat]⟩ := by
            unfold rnStep; rw [if_pos HK.out, if_pos hz]
          have hinv1 := rnInv_step hinv hle' hle hst
          rw [hst] at hgo
          have HG := Lib.hid hgo
          have HZ := Lib.hid (show decide (stL st.l s[k].toNat = 0) = true by simpa using hz)
          clear hgo hst hz
          refine (whole_any _ _ _ _ _ hs1).mono ?_
          rintro e w' ⟨rfl, rfl⟩
          rw [HZ.out]
          go_wp2_with (first
            | (at_builtin; refine wp_app1 rfl _ _ 37 rfl (w.heap.size + 1) 3 (.int .i64 0) 8 Tryz.underlying37 Tryz.info3 rfl u4 _ _ rfl (by exact hrow1) rfl _ rfl (by simp [maxLen]; omega) (by simp; omega) (by omega) ?_; intro v2 w2 hown2 hb2 hn2))
          have hrow2 : ORow w2 (w.heap.size + 1) 3 v2 ((st.out ++ [st.num * 64 + payI s[k].toNat]).map iV) := by simpa [iV] using hown2
          have hs2 : ScanAt w2 w.heap.size (stL st.l s[k].toNat) (stLo st.l s[k].toNat) (stHi st.l s[k].toNat) := Blk.grown hs1 hb2 (hrow1.not_own (by omega))
          have hbel2 : Below w.heap.size w w2 := below_row hbel1 hb2 hrow1 (by omega) (by omega)
          clear hown2 hb2 hn2 hs1 hrow1 hbel1
          go_wp2
          go_roundw
          case rel => exact ⟨k + 1, _, by omega, by go_num, rfl, hs2, hrow2, hbel2, hinv1, by simp; omega, HG⟩
          case measure => simp [intOf]; omega
        · have hst : rnStep st (s[k].toNat : Int) = some ⟨stL st.l s[k].toNat, stLo st.l s[k].toNat, stHi st.l s[k].toNat, st.num * 64 + payI s[k].toNat, st.out⟩ := by
            unfold rnStep; rw [if_pos HK.out, if_neg hz]
          have hinv1 := rnInv_step hinv hle' hle hst
          rw [hst] at hgo
          have HG := Lib.hid hgo
          have HZ := Lib.hid (show decide (stL st.l s[k].toNat = 0) = false by simpa using hz)
          clear hgo hst hz
          refine (whole_any _ _ _ _ _ hs1).mono ?_
          rintro e w' ⟨rfl, rfl⟩
          rw [HZ.out]
          go_wp2
          go_roundw
          case rel => exact ⟨k + 1, ⟨stL st.l s[k].toNat, stLo st.l s[k].toNat, stHi st.l s[k].toNat, st.num * 64 + payI s[k].toNat, st.out⟩, by omega, by go_num, rfl, hs1, hrow1, hbel1, hinv1, (by show st.out.length ≤ k + 1; omega), HG⟩
          case measure => simp [intOf]; omega
      · have HK := Lib.hid (show stOk st.l st.lo st.hi s[k].toNat = false by simpa using hok)
        have hnone : runesL s.data.toList = none := by
          rw [HR.out, hdc]
          simp only [runesGo, rnStep]
          rw [if_neg hok]
        have HN := Lib.hid hnone
        clear hnone hok hdc
        go_wp2_with fail
        refine (step_any _ _ _ _ _ _ hsc hl03.1 hl03.2 (by omega) hle).mono ?_
        rintro e w1 ⟨rfl, hg1, hs1⟩
        rw [HK.out]
        go_wp2
        go_ret2
        exact runesPost_none HN.out (below_only hbel hg1 hbel.size (Nat.le_refl _))
    · have hkn : k = s.size := by omega
      subst hkn
      have hfin : runesL s.data.toList = if st.l = 0 then some st.out else none := by
        rw [HR.out, List.drop_eq_nil_of_le (by simp)]
        rfl
      by_cases hz : st.l = 0
      · have HN := Lib.hid (show runesL s.data.toList = some st.out by rw [hfin, if_pos hz])
        have HZ := Lib.hid (show decide (st.l = 0) = true by simpa using hz)
        clear hfin hz
        go_wp2_with (first
          | (go_at_call 76; refine (whole_any _ _ _ _ _ hsc).mono ?_; rintro e w' ⟨rfl, rfl⟩; rw [HZ.out]))
        go_ret2
        exact runesPost_some HN.out (hown.mono (by omega)) hbel
      · have HN := Lib.hid (show runesL s.data.toList = none by rw [hfin, if_neg hz])
        have HZ := Lib.hid (show decide (st.l = 0) = false by simpa using hz)
        clear hfin hz
        go_wp2_with (first
          | (go_at_call 76; refine (whole_any _ _ _ _ _ hsc).mono ?_; rintro e w' ⟨rfl, rfl⟩; rw [HZ.out]))
        go_ret2
        exact runesPost_none HN.out hbel
end Go.Proofs.YtfilonbhcalkoaaGreatDoor
namespace Go.Proofs.YtfilonbhcalkoaaGreatDoor
open Go.RowKit Go.Maps
set_option maxRecDepth 100000

/-- A text cut at its first closing brace. -/
def cutAt (l : List UInt8) : List UInt8 × List UInt8 × Bool :=
  match l.dropWhile noEnd with
  | [] => (l, [], false)
  | _ :: b => (l.takeWhile noEnd, b, true)

theorem noEnd_iff (c : UInt8) : noEnd c = !(c == 125) := by
  unfold noEnd
  rw [Bool.eq_iff_iff]
  simp
  constructor
  · intro h hc; subst hc; exact h rfl
  · intro h hc; exact h (UInt8.toNat_inj.1 (by rw [show (125 : UInt8).toNat = 125 from rfl]; omega))

theorem index_none {l : List UInt8} (h : l.dropWhile noEnd = []) : Lib.indexByte l 125 = -1 := by
  induction l with
  | nil => rfl
  | cons c t ih =>
    rw [List.dropWhile_cons] at h
    split at h
    · rename_i hc
      have hc' : (c == 125) = false := by rw [noEnd_iff] at hc; simpa using hc
      simp only [Lib.indexByte, hc', ih h]
      rfl
    · cases h
theorem index_some {l b : List UInt8} {c : UInt8} (h : l.dropWhile noEnd = c :: b) : Lib.indexByte l 125 = ((l.takeWhile noEnd).length : Int) := by
  induction l with
  | nil => cases h
  | cons d t ih =>
    rw [List.dropWhile_cons] at h
    rw [List.takeWhile_cons]
    split at h
    · rename_i hc
      have hc' : (d == 125) = false := by rw [noEnd_iff] at hc; simpa using hc
      have e := ih h
      simp only [Lib.indexByte, hc', e]
      rw [if_neg (by simp), if_neg (by simp), if_pos hc]
      simp
    · rename_i hc
      have hc' : (d == 125) = true := by rw [noEnd_iff] at hc; simpa using hc
      simp only [Lib.indexByte, hc']
      rw [if_pos trivial, if_neg hc]
      rfl
theorem parts_len {l b : List UInt8} {c : UInt8} (h : l.dropWhile noEnd = c :: b) : (l.takeWhile noEnd).length + 1 + b.length = l.length := by
  have := congrArg List.length (List.takeWhile_append_dropWhile (p := noEnd) (l := l))
  rw [h, List.length_append, List.length_cons] at this
  omega
theorem parts_eq {l b : List UInt8} {c : UInt8} (h : l.dropWhile noEnd = c :: b) : l = l.takeWhile noEnd ++ c :: b := by rw [← h]; exact List.takeWhile_append_dropWhile.symm
theorem parts_take {l b : List UInt8} {c : UInt8} (h : l.dropWhile noEnd = c :: b) : l.take (l.takeWhile noEnd).length = l.takeWhile noEnd := by
  have e := parts_eq h
  generalize l.takeWhile noEnd = a at *
  subst e
  simp
theorem parts_drop {l b : List UInt8} {c : UInt8} (h : l.dropWhile noEnd = c :: b) : l.drop ((l.takeWhile noEnd).length + 1) = b := by
  have e := parts_eq h
  generalize l.takeWhile noEnd = a at *
  subst e
  rw [List.drop_append]
  simp

theorem index_any (s : ByteArray) (w : World) :
    Calls Tryz.prog 87 #[.string s, .string ⟨#[125]⟩] w fun e w' => e = .returned (.int .i64 (Lib.indexByte s.data.toList 125)) ∧ w = w' := by
  cases hE : ([125] == s.toList)
  · have hE2 : ¬ ([125] = s.toList) := by simpa using hE
    go_enter Tryz.func87, Tryz.ntmps87
    go_wp2_with (go_at_call 94; refine (Tryz.stringslite_IndexByte s _ _).mono ?_; rintro e w' ⟨rfl, rfl⟩)
    go_ret
    exact ⟨rfl, rfl⟩
  · have hE2 : [125] = s.toList := by simpa using hE
    have hI := Lib.hid (show Lib.indexByte s.data.toList 125 = 0 by rw [← Lib.toList_data, ← hE2]; rfl)
    clear hE2
    go_enter Tryz.func87, Tryz.ntmps87
    go_wp2_with (go_at_call 94; refine (Tryz.stringslite_IndexByte s _ _).mono ?_; rintro e w' ⟨rfl, rfl⟩)
    go_ret
    exact ⟨ret_int hI.out.symm, rfl⟩

def CutAtEnd (l : List UInt8) : Ending := .returned (.tuple #[.string ⟨(cutAt l).1.toArray⟩, .string ⟨(cutAt l).2.1.toArray⟩, .bool (cutAt l).2.2])
theorem str_of (s : ByteArray) : (⟨s.data.toList.toArray⟩ : ByteArray) = s := rfl

set_option maxHeartbeats 400000 in
theorem lcut_any (s : ByteArray) (w : World) (hm : s.size ≤ 140737488355328) :
    Calls Tryz.prog 72 #[.string s, .string ⟨#[125]⟩] w fun e w' => e = CutAtEnd s.data.toList ∧ ∃ n, w' = w.drewN n := by
  have hl : s.data.toList.length = s.size := by simp
  cases hd : s.data.toList.dropWhile noEnd with
  | nil =>
    have hi := Lib.hid (index_none hd)
    have hE : CutAtEnd s.data.toList = .returned (.tuple #[.string s, .string ⟨#[]⟩, .bool false]) := by
      unfold CutAtEnd cutAt
      rw [hd]
    rw [hE]
    clear hE hd hl
    go_enter Tryz.func72, Tryz.ntmps72
    go_wp2_with (go_at_call 87; refine (index_any s _).mono ?_; rintro e w' ⟨rfl, rfl⟩; rw [hi.out])
    go_ret3
    exact ⟨rfl, 0, rfl⟩
  | cons c b =>
    have hi := Lib.hid (index_some hd)
    have hlen := parts_len hd
    have hE : CutAtEnd s.data.toList = .returned (.tuple #[.string (s.extract 0 (s.data.toList.takeWhile noEnd).length), .string (s.extract ((s.data.toList.takeWhile noEnd).length + 1) s.size), .bool true]) := by
      have p1 : s.extract 0 (s.data.toList.takeWhile noEnd).length = ⟨(s.data.toList.takeWhile noEnd).toArray⟩ := by
        apply ByteArray.ext
        apply Array.toList_inj.1
        rw [show (s.extract 0 (s.data.toList.takeWhile noEnd).length).data.toList = s.data.toList.take (s.data.toList.takeWhile noEnd).length from by simp, parts_take hd]
      have p2 : s.extract ((s.data.toList.takeWhile noEnd).length + 1) s.size = ⟨b.toArray⟩ := by
        apply ByteArray.ext
        apply Array.toList_inj.1
        rw [show (s.extract ((s.data.toList.takeWhile noEnd).length + 1) s.size).data.toList = s.data.toList.drop ((s.data.toList.takeWhile noEnd).length + 1) from extract_all _ _, parts_drop hd]
      rw [p1, p2]
      unfold CutAtEnd cutAt
      rw [hd]
    rw [hE]
    clear hE
    generalize (s.data.toList.takeWhile noEnd).length = i at *
    have c1 : (0 : Int) ≤ ↑i := by omega
    have c2 : (↑i : Int) ≤ ↑s.size := by omega
    have c3 : (0 : Int) ≤ ↑i + 1 := by omega
    have c4 : (↑i + 1 : Int) ≤ ↑s.size := by omega
    clear hd hl hlen
    go_enter Tryz.func72, Tryz.ntmps72
    go_wp2_with (go_at_call 87; refine (index_any s _).mono ?_; rintro e w' ⟨rfl, rfl⟩; rw [hi.out])
    go_region
    go_wp2
    go_ret3
    exact ⟨rfl, 1, rfl⟩
end Go.Proofs.YtfilonbhcalkoaaGreatDoor
