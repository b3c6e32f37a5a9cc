/-
  names: Cut and Join of the program, whole.
  Contracts of num's machine: digit, step, complete, May.
  Contracts of num's exponent, the order of texts, compareSizes.
-/
import Derived.Test.YtalkjgijmceifaaGreatDoorDwA09
import Derived.Test.YtalkjgijmceifaaGreatDoorChecked
import Derived.Test.YtalkjgijmceifaaGreatDoorDwA03
import Derived.WalkKit
import Derived.WalkSpells
import Derived.WalkLawsBesides
import Derived.Lib.Hide
import Derived.Test.YtalkjgijmceifaaGreatDoorDwA04
import Derived.Test.YtalkjgijmceifaaGreatDoorDwA07
import Derived.Test.YtalkjgijmceifaaGreatDoorShelf
import Derived.WalkSmall
import Derived.Lib.LaidTab
import Derived.Lib.AppendIntMem
import Derived.BigQuiet
import Derived.Deep.QuietTactic
namespace Go.Proofs.YtalkjgijmceifaaGreatDoor
open Go.RowKit Go.Maps
set_option maxRecDepth 100000

theorem scut_any (s : ByteArray) (w : World) (hm : s.size ≤ 140737488355328) :
    Calls Tryz.prog 52 #[.string s, .string ⟨#[125]⟩] w fun e w' => e = CutAtEnd s.data.toList ∧ ∃ n, w' = w.drewN n := by
  unfold CutAtEnd
  go_enter Tryz.func52, Tryz.ntmps52
  go_wp2_with (go_at_call 60; refine (lcut_any s _ hm).mono ?_; unfold CutAtEnd; rintro e w' ⟨rfl, n, rfl⟩)
  go_ret3
  exact ⟨rfl, n, rfl⟩

def CutEnd (l : List UInt8) : Ending :=
  match cutL l with
  | none => .returned (.tuple #[.string ⟨#[]⟩, .string ⟨#[]⟩, .bool false])
  | some p => .returned (.tuple #[.string ⟨p.1.toArray⟩, .string ⟨p.2.toArray⟩, .bool true])
theorem cutEnd_none {l : List UInt8} (h : cutL l = none) : CutEnd l = .returned (.tuple #[.string ⟨#[]⟩, .string ⟨#[]⟩, .bool false]) := by unfold CutEnd; rw [h]
theorem cutEnd_some {l a b : List UInt8} (h : cutL l = some (a, b)) : CutEnd l = .returned (.tuple #[.string ⟨a.toArray⟩, .string ⟨b.toArray⟩, .bool true]) := by unfold CutEnd; rw [h]
theorem cutL_long {l : List UInt8} (h : 48 < l.length) : cutL l = none := by
  cases l with
  | nil => rfl
  | cons c t => simp only [cutL]; rw [if_pos (by simpa using h)]
theorem cutL_plain {l : List UInt8} (h : ¬ 48 < l.length) (hp : Lib.hasPrefix l [123] = false) : cutL l = if localL l = true then some ([], l) else none := by
  cases l with
  | nil => rfl
  | cons c t =>
    simp only [cutL]
    have hc : (c.toNat : Int) ≠ 123 := by
      intro hc
      have : c = 123 := UInt8.toNat_inj.1 (by rw [show (123 : UInt8).toNat = 123 from rfl]; omega)
      subst this
      cases hp
    rw [if_neg (by simpa using h), if_neg hc]
theorem prefix_cons {l : List UInt8} (hp : Lib.hasPrefix l [123] = true) : ∃ t, l = 123 :: t := by
  cases l with
  | nil => cases hp
  | cons c t =>
    refine ⟨t, ?_⟩
    simp [Lib.hasPrefix, List.isPrefixOf] at hp
    rw [← hp]
theorem cutL_brace {t : List UInt8} (h : ¬ 48 < t.length + 1) : cutL (123 :: t) = if spaceL (cutAt t).1 = true ∧ localL (cutAt t).2.1 = true then some ((cutAt t).1, (cutAt t).2.1) else none := by
  cases hd : t.dropWhile noEnd with
  | nil =>
    have e : cutAt t = (t, [], false) := by unfold cutAt; rw [hd]
    rw [e]
    simp only [cutL]
    rw [if_neg h, if_pos (by rfl), hd]
    simp [localL]
  | cons c b =>
    have e : cutAt t = (t.takeWhile noEnd, b, true) := by unfold cutAt; rw [hd]
    rw [e]
    simp only [cutL]
    rw [if_neg h, if_pos (by rfl), hd]
theorem cutAt_len (t : List UInt8) : (cutAt t).1.length ≤ t.length ∧ (cutAt t).2.1.length ≤ t.length := by
  unfold cutAt
  cases hd : t.dropWhile noEnd with
  | nil => simp
  | cons c b => have := parts_len hd; simp only; omega

set_option maxHeartbeats 1000000 in
theorem cut_any (s : ByteArray) (w : World) (hm : s.size ≤ 140737488355328) :
    Calls Tryz.prog 39 #[.string s] w fun e w' => e = CutEnd s.data.toList ∧ Below w.heap.size w w' := by
  have hl : s.data.toList.length = s.size := by simp
  by_cases h48 : 48 < s.size
  · rw [cutEnd_none (cutL_long (by omega))]
    clear hl
    go_enter Tryz.func39, Tryz.ntmps39
    go_wp2
    go_ret3
    exact ⟨rfl, Below.refl _ _⟩
  rcases Bool.eq_false_or_eq_true (Lib.hasPrefix s.data.toList [123]) with hp | hp
  · -- it begins with a brace
    obtain ⟨t, ht⟩ := prefix_cons hp
    have hE : CutEnd s.data.toList = CutEnd (123 :: t) := by rw [ht]
    rw [hE]
    have hcl := cutAt_len t
    have hb := cutL_brace (t := t) (by rw [ht] at hl; simp at hl; omega)
    have HP := Lib.hid hp
    have HT := Lib.hid (show Lib.trimPrefix s.data.toList [123] = t by rw [ht]; simp [Lib.trimPrefix, Lib.hasPrefix, List.isPrefixOf])
    have htl : t.length ≤ 48 := by rw [ht] at hl; simp at hl; omega
    clear hE ht hp hl
    have HA := Lib.hid (show CutAtEnd t = .returned (.tuple #[.string ⟨(cutAt t).1.toArray⟩, .string ⟨(cutAt t).2.1.toArray⟩, .bool (cutAt t).2.2]) from rfl)
    generalize (cutAt t).1 = A at *
    generalize (cutAt t).2.1 = B at *
    generalize (cutAt t).2.2 = F at *
    obtain ⟨hA, hB⟩ := hcl
    have HL : Hid ((⟨t.toArray⟩ : ByteArray).data.toList = t) := Lib.hid rfl
    have hsA : (⟨A.toArray⟩ : ByteArray).size ≤ 48 := by show A.toArray.size ≤ 48; simp; omega
    have hsB : (⟨B.toArray⟩ : ByteArray).size ≤ 48 := by show B.toArray.size ≤ 48; simp; omega
    have hsT : (⟨t.toArray⟩ : ByteArray).size ≤ 48 := by show t.toArray.size ≤ 48; simp; omega
    generalize hsa : (⟨A.toArray⟩ : ByteArray) = sa at *
    generalize hsb : (⟨B.toArray⟩ : ByteArray) = sb at *
    generalize hst : (⟨t.toArray⟩ : ByteArray) = st at *
    have ea : sa.data.toList = A := by rw [← hsa]
    have eb : sb.data.toList = B := by rw [← hsb]
    have HST := Lib.hid hst
    have hbel := Below.refl w.heap.size w
    rcases Bool.eq_false_or_eq_true (spaceL A) with hs | hs
    · have HS := Lib.hid (show spaceL sa.data.toList = true by rw [ea, hs])
      rcases Bool.eq_false_or_eq_true (localL B) with hf | hf
      · rw [if_pos ⟨hs, hf⟩] at hb
        rw [cutEnd_some hb, hsa, hsb]
        have HF := Lib.hid (show localL sb.data.toList = true by rw [eb, hf])
        clear hs hf hb ea eb hsa hsb hst
        go_enter Tryz.func39, Tryz.ntmps39
        go_wp2_with (first
          | (go_at_call 51; refine (Tryz.strings_CutPrefix s _ _).mono ?_; rintro e w' ⟨rfl, rfl⟩; rw [show (⟨#[123]⟩ : ByteArray).data.toList = [123] from rfl, HP.out, HT.out, HST.out])
          | (go_at_call 52; refine (scut_any _ _ (by omega)).mono ?_; rw [HL.out, HA.out]; rintro e w' ⟨rfl, n, rfl⟩; replace hbel := below_drewN hbel n)
          | (go_at_call 53; refine (space_any _ _ (by omega)).mono ?_; rintro e w' ⟨rfl, hb1⟩; rw [HS.out]; replace hbel := hbel.trans (hb1.mono hbel.size); clear hb1)
          | (go_at_call 54; refine (local_any _ _ (by omega)).mono ?_; rintro e w' ⟨rfl, rfl⟩; rw [HF.out])
          | (go_at_call 44; refine (clone_any _ _ (by omega)).mono ?_; rintro e w' ⟨rfl, hb1⟩; replace hbel := hbel.trans (hb1.mono hbel.size); clear hb1))
        go_ret3
        exact ⟨rfl, hbel⟩
      · rw [if_neg (by rw [hf]; simp)] at hb
        rw [cutEnd_none hb]
        have HF := Lib.hid (show localL sb.data.toList = false by rw [eb, hf])
        clear hs hf hb ea eb hsa hsb hst
        go_enter Tryz.func39, Tryz.ntmps39
        go_wp2_with (first
          | (go_at_call 51; refine (Tryz.strings_CutPrefix s _ _).mono ?_; rintro e w' ⟨rfl, rfl⟩; rw [show (⟨#[123]⟩ : ByteArray).data.toList = [123] from rfl, HP.out, HT.out, HST.out])
          | (go_at_call 52; refine (scut_any _ _ (by omega)).mono ?_; rw [HL.out, HA.out]; rintro e w' ⟨rfl, n, rfl⟩; replace hbel := below_drewN hbel n)
          | (go_at_call 53; refine (space_any _ _ (by omega)).mono ?_; rintro e w' ⟨rfl, hb1⟩; rw [HS.out]; replace hbel := hbel.trans (hb1.mono hbel.size); clear hb1)
          | (go_at_call 54; refine (local_any _ _ (by omega)).mono ?_; rintro e w' ⟨rfl, rfl⟩; rw [HF.out])
          | (go_at_call 44; refine (clone_any _ _ (by omega)).mono ?_; rintro e w' ⟨rfl, hb1⟩; replace hbel := hbel.trans (hb1.mono hbel.size); clear hb1))
        go_ret3
        exact ⟨rfl, hbel⟩
    · have HS := Lib.hid (show spaceL sa.data.toList = false by rw [ea, hs])
      rw [if_neg (by rw [hs]; simp)] at hb
      rw [cutEnd_none hb]
      have HF : True := trivial
      clear hs hb ea eb hsa hsb hst
      go_enter Tryz.func39, Tryz.ntmps39
      go_wp2_with (first
        | (go_at_call 51; refine (Tryz.strings_CutPrefix s _ _).mono ?_; rintro e w' ⟨rfl, rfl⟩; rw [show (⟨#[123]⟩ : ByteArray).data.toList = [123] from rfl, HP.out, HT.out, HST.out])
        | (go_at_call 52; refine (scut_any _ _ (by omega)).mono ?_; rw [HL.out, HA.out]; rintro e w' ⟨rfl, n, rfl⟩; replace hbel := below_drewN hbel n)
        | (go_at_call 53; refine (space_any _ _ (by omega)).mono ?_; rintro e w' ⟨rfl, hb1⟩; rw [HS.out]; replace hbel := hbel.trans (hb1.mono hbel.size); clear hb1))
      go_ret3
      exact ⟨rfl, hbel⟩
  · have hb := cutL_plain (l := s.data.toList) (by omega) hp
    have HP := Lib.hid hp
    have HT := Lib.hid (show Lib.trimPrefix s.data.toList [123] = s.data.toList by simp [Lib.trimPrefix, hp])
    have hbel := Below.refl w.heap.size w
    rcases Bool.eq_false_or_eq_true (localL s.data.toList) with hf | hf
    case' inl => rw [hf, if_pos rfl] at hb
    case' inl => rw [cutEnd_some hb]
    case' inr => rw [hf, if_neg (by simp)] at hb
    case' inr => rw [cutEnd_none hb]
    all_goals have HF := Lib.hid hf
    all_goals clear hf hb hp hl
    all_goals
      go_enter Tryz.func39, Tryz.ntmps39
      go_wp2_with (first
        | (go_at_call 51; refine (Tryz.strings_CutPrefix s _ _).mono ?_; rintro e w' ⟨rfl, rfl⟩; rw [show (⟨#[123]⟩ : ByteArray).data.toList = [123] from rfl, HP.out, HT.out, str_of])
        | (go_at_call 54; refine (local_any s _ hm).mono ?_; rintro e w' ⟨rfl, rfl⟩; rw [HF.out])
        | (go_at_call 44; refine (clone_any _ _ (by first | omega | (show (0 : Nat) ≤ _; omega))).mono ?_; rintro e w' ⟨rfl, hb1⟩; replace hbel := hbel.trans (hb1.mono hbel.size); clear hb1))
      go_ret3
      exact ⟨rfl, hbel⟩
end Go.Proofs.YtalkjgijmceifaaGreatDoor
namespace Go.Proofs.YtalkjgijmceifaaGreatDoor.Nm
open Go.RowKit

theorem ret_bool {a b : Bool} (h : a = b) : Ending.returned (.bool a) = .returned (.bool b) := by rw [h]
theorem ret_int {k : IntKind} {a b : Int} (h : a = b) : Ending.returned (.int k a) = .returned (.int k b) := by rw [h]

theorem digit_any (a : Int) (w : World) :
    Calls Tryz.prog 84 #[.int .i64 a] w fun e w' => e = .returned (.int .i64 (dgI a)) ∧ w = w' := by
  go_enter Tryz.func84, Tryz.ntmps84
  go_wp2
  all_goals go_ret
  all_goals refine ⟨ret_int ?_, rfl⟩
  all_goals unfold dgI
  all_goals repeat' split
  all_goals first | rfl | (exfalso; simp_all; done) | (exfalso; simp_all; omega) 

theorem compl_any (a : Int) (w : World) :
    Calls Tryz.prog 76 #[.int .i64 a] w fun e w' => e = .returned (.bool (compB a)) ∧ w = w' := by
  go_enter Tryz.func76, Tryz.ntmps76
  go_wp2
  all_goals go_ret
  all_goals refine ⟨ret_bool ?_, rfl⟩
  all_goals unfold compB
  all_goals first | (refine (decide_eq_true ?_).symm; simp_all; done) | (refine (decide_eq_false ?_).symm; simp_all; done)

set_option maxHeartbeats 2000000 in
theorem step_any (a b : Int) (w : World) :
    Calls Tryz.prog 75 #[.int .i64 a, .int .u8 b] w fun e w' => e = .returned (.int .i64 (stepI a b)) ∧ w = w' := by
  go_enter Tryz.func75, Tryz.ntmps75
  go_wp2_with (go_at_call 84; refine (digit_any _ _).mono ?_; rintro e w' ⟨rfl, rfl⟩)
  all_goals go_ret
  all_goals refine ⟨ret_int ?_, rfl⟩
  all_goals simp only [beq_iff_eq, beq_eq_false_iff_ne, ne_eq] at *
  all_goals unfold stepI
  all_goals repeat' split
  all_goals first | rfl | omega

theorem stepI_rng (a b : Int) : 0 ≤ stepI a b ∧ stepI a b ≤ 9 := by
  unfold stepI dgI
  repeat' split
  all_goals omega

/-- May: the machine over the whole text; it stops where nothing can follow. -/
theorem may_any (s : ByteArray) (w : World) (hm : s.size ≤ 9223372036854775807) :
    Calls Tryz.prog 68 #[.string s] w fun e w' => e = .returned (.tuple #[.bool (begB s.data.toList), .bool (isB s.data.toList)]) ∧ w = w' := by
  go_enter Tryz.func68, Tryz.ntmps68
  go_wp2
  go_loop [4, 5] (fun a i => ∃ k : Nat, k ≤ s.size ∧ i = .int .i64 k ∧ a = .int .i64 (mst 1 (s.data.toList.take k))) (fun _ i => s.size - (intOf i).toNat)
  case atStart => exact ⟨0, Nat.zero_le _, rfl, rfl⟩
  case round =>
    obtain ⟨k, hk, rfl, rfl⟩ := hrel
    generalize hM : mst 1 (s.data.toList.take k) = M
    have HM := Lib.hid hM
    clear hM
    by_cases hlt : k < s.size
    · by_cases h0 : M = 0
      · have hb : (M != 0) = false := by simp [h0]
        have hfin : mst 1 s.data.toList = 0 := by
          rw [← List.take_append_drop k s.data.toList, mst_append, HM.out, h0, mst_0]
        have HF := Lib.hid hfin
        have H0 := Lib.hid h0
        clear hfin h0
        go_wp2_with (first | (go_at_call 76; refine (compl_any _ _).mono ?_; rintro e w' ⟨rfl, rfl⟩))
        go_ret2
        refine ⟨?_, rfl⟩
        unfold begB isB
        rw [HF.out, H0.out]
        rfl
      · have hb : (M != 0) = true := by simpa using h0
        have hts : mst 1 (s.data.toList.take (k + 1)) = stepI M (s[k].toNat : Int) := by
          rw [List.take_succ_eq_append_getElem (by simpa using hlt), mst_snoc, HM.out]
          rfl
        have HT := Lib.hid hts
        clear hts h0
        go_wp2_with (first | (go_at_call 75; refine (step_any _ _ _).mono ?_; rintro e w' ⟨rfl, rfl⟩))
        go_round
        case rel => exact ⟨k + 1, by omega, by go_num, by rw [HT.out]⟩
        case measure => simp [intOf]; omega
    · have hfin : begB s.data.toList = (M != 0) ∧ isB s.data.toList = compB M := by
        have h1 : mst 1 s.data.toList = M := by rw [← HM.out, List.take_of_length_le (by simp; omega)]
        unfold begB isB
        rw [h1]
        exact ⟨by rw [Bool.eq_iff_iff]; simp, rfl⟩
      have HF := Lib.hid hfin
      clear hfin
      go_wp2_with (first | (go_at_call 76; refine (compl_any _ _).mono ?_; rintro e w' ⟨rfl, rfl⟩))
      all_goals go_ret2
      all_goals refine ⟨?_, rfl⟩
      all_goals rw [HF.out.1, HF.out.2]
      all_goals rfl
end Go.Proofs.YtalkjgijmceifaaGreatDoor.Nm
namespace Go.Proofs.YtalkjgijmceifaaGreatDoor.Nm
open Go.RowKit

/-! What the walks lean on in the world: variables of the library. -/
theorem gMax : Tryz.prog.globalNamed "internal/bytealg.MaxLen" = some 0 := by kernel_rfl
theorem gRange : Tryz.prog.globalNamed "strconv.ErrRange" = some 2 := by kernel_rfl
theorem gPow : Tryz.prog.globalNamed "internal/strconv.uint64pow10" = some 5 := by kernel_rfl
set_option linter.unusedSectionVars false
variable [Tab]
structure StdW (w : World) : Prop where
  max : ∃ m, w.cell? ⟨0, 0, none⟩ = some (.int .i64 m)
  range : ∃ ev, w.cell? ⟨2, 0, none⟩ = some ev ∧ (ev = .nilIface ∨ ∃ te pe, ev = .iface te pe)
  pow : Lib.TabIs Tryz.prog w "internal/strconv.uint64pow10" .u64 Tab.zs
theorem StdW.below {w w' : World} (h : StdW w) (hb : Below w.heap.size w w') : StdW w' := by
  obtain ⟨⟨m, hm⟩, ⟨ev, hr, hv⟩, hp⟩ := h
  exact ⟨⟨m, (hb.cell (p := ⟨0, 0, none⟩) (cell_lt hm)).trans hm⟩, ⟨ev, (hb.cell (p := ⟨2, 0, none⟩) (cell_lt hr)).trans hr, hv⟩, Lib.tabBelow_of_tabIs hp w' hb⟩
theorem StdW.drewN {w : World} (h : StdW w) (n : Nat) : StdW (w.drewN n) := h.below (below_drewN (Below.refl _ _) n)

theorem expo_any (s : ByteArray) (w : World) (hw : StdW w) (hs : s.size ≤ 30) (h1 : sgn s.data.toList ≠ []) (h2 : (sgn s.data.toList).all dig = true) :
    Calls Tryz.prog 78 #[.string s] w fun e w' => e = .returned (.int .i64 (clampI (atoiI s.data.toList))) ∧ Below w.heap.size w w' := by
  rcases (atoi_tail _ h1 h2).1 with ha | ⟨v, ha⟩
  · have hv : atoiI s.data.toList = Lib.atoiSat s.data.toList := by unfold atoiI; rw [ha]; rfl
    rw [hv]
    have HA := Lib.hid ha
    clear ha hv
    obtain ⟨ev, hr, hev⟩ := hw.range
    go_enter Tryz.func78, Tryz.ntmps78
    go_wp2_with fail
    refine (Tryz.strconv_Atoi_range s (by omega) HA.out ev _ hr hev).mono ?_
    rintro e w1 ⟨N, rfl, _, _, hb⟩
    go_wp2
    go_ret
    exact ⟨rfl, hb⟩
  · have hv : atoiI s.data.toList = v := by unfold atoiI; rw [ha]; rfl
    rw [hv]
    have HA := Lib.hid ha
    clear ha hv
    go_enter Tryz.func78, Tryz.ntmps78
    go_wp2_with fail
    refine (Tryz.strconv_Atoi_ok s (by omega) v HA.out _).mono ?_
    rintro e w1 ⟨rfl, hw1⟩
    have hb : Below w.heap.size w w1 := by
      rcases hw1 with rfl | ⟨t, rfl⟩
      · exact Below.refl _ _
      · exact Lib.bytesWorld_below _ _ _
    clear hw1
    go_wp2
    go_ret
    exact ⟨rfl, hb⟩

theorem lex_lss (x y : List UInt8) : Op.bytesLess x y = decide (lexC x y < 0) := by
  induction x generalizing y with
  | nil => cases y <;> simp [Op.bytesLess, lexC]
  | cons a x ih =>
    cases y with
    | nil => simp [Op.bytesLess, lexC]
    | cons b y =>
      simp only [Op.bytesLess, lexC]
      by_cases h : a.toNat < b.toNat
      · have : a < b := by rwa [UInt8.lt_iff_toNat_lt]
        simp [h, this]
      · have : ¬ a < b := by rwa [UInt8.lt_iff_toNat_lt]
        by_cases h2 : b.toNat < a.toNat
        · have h3 : (a == b) = false := by rw [beq_eq_false_iff_ne]; intro hc; subst hc; omega
          simp [h, this, h2, h3]
        · have h3 : a = b := UInt8.toNat_inj.1 (by omega)
          subst h3
          simp [ih]
theorem lex_eq (x y : List UInt8) : (x == y) = decide (lexC x y = 0) := by
  by_cases h : x = y
  · subst h; rw [lexC_self]; simp
  · have : lexC x y ≠ 0 := fun hc => h (lexC_zero hc)
    simp [h, this]

/-- A decimal as the program holds it. -/
def decA (v : Val) : Value := .agg #[.int .i64 (sgI v), .string ⟨v.digs.toArray⟩, .int .i64 v.pow]

end Go.Proofs.YtalkjgijmceifaaGreatDoor.Nm
