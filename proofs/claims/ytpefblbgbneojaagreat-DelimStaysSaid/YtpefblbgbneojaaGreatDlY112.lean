/-
  Contracts of num's machine: digit, step, complete, May.
  Contracts of num's exponent, the order of texts, compareSizes.
-/
import Derived.Test.YtpefblbgbneojaaGreatChecked
import Derived.Test.YtpefblbgbneojaaGreatDlY103
import Derived.WalkKit
import Derived.WalkSpells
import Derived.WalkLawsBesides
import Derived.Lib.Hide
import Derived.Test.YtpefblbgbneojaaGreatDlY104
import Derived.Test.YtpefblbgbneojaaGreatDlY107
import Derived.Test.YtpefblbgbneojaaGreatShelf
import Derived.WalkSmall
import Derived.Lib.LaidTab
import Derived.Lib.AppendIntMem
import Derived.BigQuiet
import Derived.Deep.QuietTactic
namespace Go.Proofs.YtpefblbgbneojaaGreat.Nm
open Go.RowKit

theorem ret_bool {a b : Bool} (h : a = b) : Ending.returned (.bool a) = .returned (.bool b) := by rw [h]
theorem ret_int {k : IntKind} {a b : Int} (h : a = b) : Ending.returned (.int k a) = .returned (.int k b) := by rw [h]

theorem digit_any (a : Int) (w : World) :
    Calls Tryz.prog 115 #[.int .i64 a] w fun e w' => e = .returned (.int .i64 (dgI a)) ∧ w = w' := by
  go_enter Tryz.func115, Tryz.ntmps115
  go_wp2
  all_goals go_ret
  all_goals refine ⟨ret_int ?_, rfl⟩
  all_goals unfold dgI
  all_goals repeat' split
  all_goals first | rfl | (exfalso; simp_all; done) | (exfalso; simp_all; omega) 

theorem compl_any (a : Int) (w : World) :
    Calls Tryz.prog 107 #[.int .i64 a] w fun e w' => e = .returned (.bool (compB a)) ∧ w = w' := by
  go_enter Tryz.func107, Tryz.ntmps107
  go_wp2
  all_goals go_ret
  all_goals refine ⟨ret_bool ?_, rfl⟩
  all_goals unfold compB
  all_goals first | (refine (decide_eq_true ?_).symm; simp_all; done) | (refine (decide_eq_false ?_).symm; simp_all; done)

set_option maxHeartbeats 2000000 in
theorem step_any (a b : Int) (w : World) :
    Calls Tryz.prog 106 #[.int .i64 a, .int .u8 b] w fun e w' => e = .returned (.int .i64 (stepI a b)) ∧ w = w' := by
  go_enter Tryz.func106, Tryz.ntmps106
  go_wp2_with (go_at_call 115; refine (digit_any _ _).mono ?_; rintro e w' ⟨rfl, rfl⟩)
  all_goals go_ret
  all_goals refine ⟨ret_int ?_, rfl⟩
  all_goals simp only [beq_iff_eq, beq_eq_false_iff_ne, ne_eq] at *
  all_goals unfold stepI
  all_goals repeat' split
  all_goals first | rfl | omega

theorem stepI_rng (a b : Int) : 0 ≤ stepI a b ∧ stepI a b ≤ 9 := by
  unfold stepI dgI
  repeat' split
  all_goals omega

/-- May: the machine over the whole text; it stops where nothing can follow. -/
theorem may_any (s : ByteArray) (w : World) (hm : s.size ≤ 9223372036854775807) :
    Calls Tryz.prog 99 #[.string s] w fun e w' => e = .returned (.tuple #[.bool (begB s.data.toList), .bool (isB s.data.toList)]) ∧ w = w' := by
  go_enter Tryz.func99, Tryz.ntmps99
  go_wp2
  go_loop [4, 5] (fun a i => ∃ k : Nat, k ≤ s.size ∧ i = .int .i64 k ∧ a = .int .i64 (mst 1 (s.data.toList.take k))) (fun _ i => s.size - (intOf i).toNat)
  case atStart => exact ⟨0, Nat.zero_le _, rfl, rfl⟩
  case round =>
    obtain ⟨k, hk, rfl, rfl⟩ := hrel
    generalize hM : mst 1 (s.data.toList.take k) = M
    have HM := Lib.hid hM
    clear hM
    by_cases hlt : k < s.size
    · by_cases h0 : M = 0
      · have hb : (M != 0) = false := by simp [h0]
        have hfin : mst 1 s.data.toList = 0 := by
          rw [← List.take_append_drop k s.data.toList, mst_append, HM.out, h0, mst_0]
        have HF := Lib.hid hfin
        have H0 := Lib.hid h0
        clear hfin h0
        go_wp2_with (first | (go_at_call 107; refine (compl_any _ _).mono ?_; rintro e w' ⟨rfl, rfl⟩))
        go_ret2
        refine ⟨?_, rfl⟩
        unfold begB isB
        rw [HF.out, H0.out]
        rfl
      · have hb : (M != 0) = true := by simpa using h0
        have hts : mst 1 (s.data.toList.take (k + 1)) = stepI M (s[k].toNat : Int) := by
          rw [List.take_succ_eq_append_getElem (by simpa using hlt), mst_snoc, HM.out]
          rfl
        have HT := Lib.hid hts
        clear hts h0
        go_wp2_with (first | (go_at_call 106; refine (step_any _ _ _).mono ?_; rintro e w' ⟨rfl, rfl⟩))
        go_round
        case rel => exact ⟨k + 1, by omega, by go_num, by rw [HT.out]⟩
        case measure => simp [intOf]; omega
    · have hfin : begB s.data.toList = (M != 0) ∧ isB s.data.toList = compB M := by
        have h1 : mst 1 s.data.toList = M := by rw [← HM.out, List.take_of_length_le (by simp; omega)]
        unfold begB isB
        rw [h1]
        exact ⟨by rw [Bool.eq_iff_iff]; simp, rfl⟩
      have HF := Lib.hid hfin
      clear hfin
      go_wp2_with (first | (go_at_call 107; refine (compl_any _ _).mono ?_; rintro e w' ⟨rfl, rfl⟩))
      all_goals go_ret2
      all_goals refine ⟨?_, rfl⟩
      all_goals rw [HF.out.1, HF.out.2]
      all_goals rfl
end Go.Proofs.YtpefblbgbneojaaGreat.Nm
namespace Go.Proofs.YtpefblbgbneojaaGreat.Nm
open Go.RowKit

/-! What the walks lean on in the world: variables of the library. -/
theorem gMax : Tryz.prog.globalNamed "internal/bytealg.MaxLen" = some 0 := by kernel_rfl
theorem gRange : Tryz.prog.globalNamed "strconv.ErrRange" = some 2 := by kernel_rfl
theorem gPow : Tryz.prog.globalNamed "internal/strconv.uint64pow10" = some 5 := by kernel_rfl
set_option linter.unusedSectionVars false
variable [Tab]
structure StdW (w : World) : Prop where
  max : ∃ m, w.cell? ⟨0, 0, none⟩ = some (.int .i64 m)
  range : ∃ ev, w.cell? ⟨2, 0, none⟩ = some ev ∧ (ev = .nilIface ∨ ∃ te pe, ev = .iface te pe)
  pow : Lib.TabIs Tryz.prog w "internal/strconv.uint64pow10" .u64 Tab.zs
theorem StdW.below {w w' : World} (h : StdW w) (hb : Below w.heap.size w w') : StdW w' := by
  obtain ⟨⟨m, hm⟩, ⟨ev, hr, hv⟩, hp⟩ := h
  exact ⟨⟨m, (hb.cell (p := ⟨0, 0, none⟩) (cell_lt hm)).trans hm⟩, ⟨ev, (hb.cell (p := ⟨2, 0, none⟩) (cell_lt hr)).trans hr, hv⟩, Lib.tabBelow_of_tabIs hp w' hb⟩
theorem StdW.drewN {w : World} (h : StdW w) (n : Nat) : StdW (w.drewN n) := h.below (below_drewN (Below.refl _ _) n)

theorem expo_any (s : ByteArray) (w : World) (hw : StdW w) (hs : s.size ≤ 30) (h1 : sgn s.data.toList ≠ []) (h2 : (sgn s.data.toList).all dig = true) :
    Calls Tryz.prog 109 #[.string s] w fun e w' => e = .returned (.int .i64 (clampI (atoiI s.data.toList))) ∧ Below w.heap.size w w' := by
  rcases (atoi_tail _ h1 h2).1 with ha | ⟨v, ha⟩
  · have hv : atoiI s.data.toList = Lib.atoiSat s.data.toList := by unfold atoiI; rw [ha]; rfl
    rw [hv]
    have HA := Lib.hid ha
    clear ha hv
    obtain ⟨ev, hr, hev⟩ := hw.range
    go_enter Tryz.func109, Tryz.ntmps109
    go_wp2_with fail
    refine (Tryz.strconv_Atoi_range s (by omega) HA.out ev _ hr hev).mono ?_
    rintro e w1 ⟨N, rfl, _, _, hb⟩
    go_wp2
    go_ret
    exact ⟨rfl, hb⟩
  · have hv : atoiI s.data.toList = v := by unfold atoiI; rw [ha]; rfl
    rw [hv]
    have HA := Lib.hid ha
    clear ha hv
    go_enter Tryz.func109, Tryz.ntmps109
    go_wp2_with fail
    refine (Tryz.strconv_Atoi_ok s (by omega) v HA.out _).mono ?_
    rintro e w1 ⟨rfl, hw1⟩
    have hb : Below w.heap.size w w1 := by
      rcases hw1 with rfl | ⟨t, rfl⟩
      · exact Below.refl _ _
      · exact Lib.bytesWorld_below _ _ _
    clear hw1
    go_wp2
    go_ret
    exact ⟨rfl, hb⟩

theorem lex_lss (x y : List UInt8) : Op.bytesLess x y = decide (lexC x y < 0) := by
  induction x generalizing y with
  | nil => cases y <;> simp [Op.bytesLess, lexC]
  | cons a x ih =>
    cases y with
    | nil => simp [Op.bytesLess, lexC]
    | cons b y =>
      simp only [Op.bytesLess, lexC]
      by_cases h : a.toNat < b.toNat
      · have : a < b := by rwa [UInt8.lt_iff_toNat_lt]
        simp [h, this]
      · have : ¬ a < b := by rwa [UInt8.lt_iff_toNat_lt]
        by_cases h2 : b.toNat < a.toNat
        · have h3 : (a == b) = false := by rw [beq_eq_false_iff_ne]; intro hc; subst hc; omega
          simp [h, this, h2, h3]
        · have h3 : a = b := UInt8.toNat_inj.1 (by omega)
          subst h3
          simp [ih]
theorem lex_eq (x y : List UInt8) : (x == y) = decide (lexC x y = 0) := by
  by_cases h : x = y
  · subst h; rw [lexC_self]; simp
  · have : lexC x y ≠ 0 := fun hc => h (lexC_zero hc)
    simp [h, this]

/-- A decimal as the program holds it. -/
def decA (v : Val) : Value := .agg #[.int .i64 (sgI v), .string ⟨v.digs.toArray⟩, .int .i64 v.pow]

end Go.Proofs.YtpefblbgbneojaaGreat.Nm
