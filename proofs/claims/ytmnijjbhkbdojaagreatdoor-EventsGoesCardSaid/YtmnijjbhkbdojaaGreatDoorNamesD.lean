/-
  names: Cut and Join of the program, whole.
-/
import Derived.Test.YtmnijjbhkbdojaaGreatDoorNamesC
namespace Go.Proofs.YtmnijjbhkbdojaaGreatDoor
open Go.RowKit Go.Maps
set_option maxRecDepth 100000

theorem scut_any (s : ByteArray) (w : World) (hm : s.size ≤ 140737488355328) :
    Calls Tryz.prog 37 #[.string s, .string ⟨#[125]⟩] w fun e w' => e = CutAtEnd s.data.toList ∧ ∃ n, w' = w.drewN n := by
  unfold CutAtEnd
  go_enter Tryz.func37, Tryz.ntmps37
  go_wp2_with (go_at_call 49; refine (lcut_any s _ hm).mono ?_; unfold CutAtEnd; rintro e w' ⟨rfl, n, rfl⟩)
  go_ret3
  exact ⟨rfl, n, rfl⟩

def CutEnd (l : List UInt8) : Ending :=
  match cutL l with
  | none => .returned (.tuple #[.string ⟨#[]⟩, .string ⟨#[]⟩, .bool false])
  | some p => .returned (.tuple #[.string ⟨p.1.toArray⟩, .string ⟨p.2.toArray⟩, .bool true])
theorem cutEnd_none {l : List UInt8} (h : cutL l = none) : CutEnd l = .returned (.tuple #[.string ⟨#[]⟩, .string ⟨#[]⟩, .bool false]) := by unfold CutEnd; rw [h]
theorem cutEnd_some {l a b : List UInt8} (h : cutL l = some (a, b)) : CutEnd l = .returned (.tuple #[.string ⟨a.toArray⟩, .string ⟨b.toArray⟩, .bool true]) := by unfold CutEnd; rw [h]
theorem cutL_long {l : List UInt8} (h : 48 < l.length) : cutL l = none := by
  cases l with
  | nil => rfl
  | cons c t => simp only [cutL]; rw [if_pos (by simpa using h)]
theorem cutL_plain {l : List UInt8} (h : ¬ 48 < l.length) (hp : Lib.hasPrefix l [123] = false) : cutL l = if localL l = true then some ([], l) else none := by
  cases l with
  | nil => rfl
  | cons c t =>
    simp only [cutL]
    have hc : (c.toNat : Int) ≠ 123 := by
      intro hc
      have : c = 123 := UInt8.toNat_inj.1 (by rw [show (123 : UInt8).toNat = 123 from rfl]; omega)
      subst this
      cases hp
    rw [if_neg (by simpa using h), if_neg hc]
theorem prefix_cons {l : List UInt8} (hp : Lib.hasPrefix l [123] = true) : ∃ t, l = 123 :: t := by
  cases l with
  | nil => cases hp
  | cons c t =>
    refine ⟨t, ?_⟩
    simp [Lib.hasPrefix, List.isPrefixOf] at hp
    rw [← hp]
theorem cutL_brace {t : List UInt8} (h : ¬ 48 < t.length + 1) : cutL (123 :: t) = if spaceL (cutAt t).1 = true ∧ localL (cutAt t).2.1 = true then some ((cutAt t).1, (cutAt t).2.1) else none := by
  cases hd : t.dropWhile noEnd with
  | nil =>
    have e : cutAt t = (t, [], false) := by unfold cutAt; rw [hd]
    rw [e]
    simp only [cutL]
    rw [if_neg h, if_pos (by rfl), hd]
    simp [localL]
  | cons c b =>
    have e : cutAt t = (t.takeWhile noEnd, b, true) := by unfold cutAt; rw [hd]
    rw [e]
    simp only [cutL]
    rw [if_neg h, if_pos (by rfl), hd]
theorem cutAt_len (t : List UInt8) : (cutAt t).1.length ≤ t.length ∧ (cutAt t).2.1.length ≤ t.length := by
  unfold cutAt
  cases hd : t.dropWhile noEnd with
  | nil => simp
  | cons c b => have := parts_len hd; simp only; omega

set_option maxHeartbeats 1000000 in
theorem cut_any (s : ByteArray) (w : World) (hm : s.size ≤ 140737488355328) :
    Calls Tryz.prog 27 #[.string s] w fun e w' => e = CutEnd s.data.toList ∧ Below w.heap.size w w' := by
  have hl : s.data.toList.length = s.size := by simp
  by_cases h48 : 48 < s.size
  · rw [cutEnd_none (cutL_long (by omega))]
    clear hl
    go_enter Tryz.func27, Tryz.ntmps27
    go_wp2
    go_ret3
    exact ⟨rfl, Below.refl _ _⟩
  rcases Bool.eq_false_or_eq_true (Lib.hasPrefix s.data.toList [123]) with hp | hp
  · -- it begins with a brace
    obtain ⟨t, ht⟩ := prefix_cons hp
    have hE : CutEnd s.data.toList = CutEnd (123 :: t) := by rw [ht]
    rw [hE]
    have hcl := cutAt_len t
    have hb := cutL_brace (t := t) (by rw [ht] at hl; simp at hl; omega)
    have HP := Lib.hid hp
    have HT := Lib.hid (show Lib.trimPrefix s.data.toList [123] = t by rw [ht]; simp [Lib.trimPrefix, Lib.hasPrefix, List.isPrefixOf])
    have htl : t.length ≤ 48 := by rw [ht] at hl; simp at hl; omega
    clear hE ht hp hl
    have HA := Lib.hid (show CutAtEnd t = .returned (.tuple #[.string ⟨(cutAt t).1.toArray⟩, .string ⟨(cutAt t).2.1.toArray⟩, .bool (cutAt t).2.2]) from rfl)
    generalize (cutAt t).1 = A at *
    generalize (cutAt t).2.1 = B at *
    generalize (cutAt t).2.2 = F at *
    obtain ⟨hA, hB⟩ := hcl
    have HL : Hid ((⟨t.toArray⟩ : ByteArray).data.toList = t) := Lib.hid rfl
    have hsA : (⟨A.toArray⟩ : ByteArray).size ≤ 48 := by show A.toArray.size ≤ 48; simp; omega
    have hsB : (⟨B.toArray⟩ : ByteArray).size ≤ 48 := by show B.toArray.size ≤ 48; simp; omega
    have hsT : (⟨t.toArray⟩ : ByteArray).size ≤ 48 := by show t.toArray.size ≤ 48; simp; omega
    generalize hsa : (⟨A.toArray⟩ : ByteArray) = sa at *
    generalize hsb : (⟨B.toArray⟩ : ByteArray) = sb at *
    generalize hst : (⟨t.toArray⟩ : ByteArray) = st at *
    have ea : sa.data.toList = A := by rw [← hsa]
    have eb : sb.data.toList = B := by rw [← hsb]
    have HST := Lib.hid hst
    have hbel := Below.refl w.heap.size w
    rcases Bool.eq_false_or_eq_true (spaceL A) with hs | hs
    · have HS := Lib.hid (show spaceL sa.data.toList = true by rw [ea, hs])
      rcases Bool.eq_false_or_eq_true (localL B) with hf | hf
      · rw [if_pos ⟨hs, hf⟩] at hb
        rw [cutEnd_some hb, hsa, hsb]
        have HF := Lib.hid (show localL sb.data.toList = true by rw [eb, hf])
        clear hs hf hb ea eb hsa hsb hst
        go_enter Tryz.func27, Tryz.ntmps27
        go_wp2_with (first
          | (go_at_call 36; refine (Tryz.strings_CutPrefix s _ _).mono ?_; rintro e w' ⟨rfl, rfl⟩; rw [show (⟨#[123]⟩ : ByteArray).data.toList = [123] from rfl, HP.out, HT.out, HST.out])
          | (go_at_call 37; refine (scut_any _ _ (by omega)).mono ?_; rw [HL.out, HA.out]; rintro e w' ⟨rfl, n, rfl⟩; replace hbel := below_drewN hbel n)
          | (go_at_call 38; refine (space_any _ _ (by omega)).mono ?_; rintro e w' ⟨rfl, hb1⟩; rw [HS.out]; replace hbel := hbel.trans (hb1.mono hbel.size); clear hb1)
          | (go_at_call 39; refine (local_any _ _ (by omega)).mono ?_; rintro e w' ⟨rfl, rfl⟩; rw [HF.out])
          | (go_at_call 32; refine (clone_any _ _ (by omega)).mono ?_; rintro e w' ⟨rfl, hb1⟩; replace hbel := hbel.trans (hb1.mono hbel.size); clear hb1))
        go_ret3
        exact ⟨rfl, hbel⟩
      · rw [if_neg (by rw [hf]; simp)] at hb
        rw [cutEnd_none hb]
        have HF := Lib.hid (show localL sb.data.toList = false by rw [eb, hf])
        clear hs hf hb ea eb hsa hsb hst
        go_enter Tryz.func27, Tryz.ntmps27
        go_wp2_with (first
          | (go_at_call 36; refine (Tryz.strings_CutPrefix s _ _).mono ?_; rintro e w' ⟨rfl, rfl⟩; rw [show (⟨#[123]⟩ : ByteArray).data.toList = [123] from rfl, HP.out, HT.out, HST.out])
          | (go_at_call 37; refine (scut_any _ _ (by omega)).mono ?_; rw [HL.out, HA.out]; rintro e w' ⟨rfl, n, rfl⟩; replace hbel := below_drewN hbel n)
          | (go_at_call 38; refine (space_any _ _ (by omega)).mono ?_; rintro e w' ⟨rfl, hb1⟩; rw [HS.out]; replace hbel := hbel.trans (hb1.mono hbel.size); clear hb1)
          | (go_at_call 39; refine (local_any _ _ (by omega)).mono ?_; rintro e w' ⟨rfl, rfl⟩; rw [HF.out])
          | (go_at_call 32; refine (clone_any _ _ (by omega)).mono ?_; rintro e w' ⟨rfl, hb1⟩; replace hbel := hbel.trans (hb1.mono hbel.size); clear hb1))
        go_ret3
        exact ⟨rfl, hbel⟩
    · have HS := Lib.hid (show spaceL sa.data.toList = false by rw [ea, hs])
      rw [if_neg (by rw [hs]; simp)] at hb
      rw [cutEnd_none hb]
      have HF : True := trivial
      clear hs hb ea eb hsa hsb hst
      go_enter Tryz.func27, Tryz.ntmps27
      go_wp2_with (first
        | (go_at_call 36; refine (Tryz.strings_CutPrefix s _ _).mono ?_; rintro e w' ⟨rfl, rfl⟩; rw [show (⟨#[123]⟩ : ByteArray).data.toList = [123] from rfl, HP.out, HT.out, HST.out])
        | (go_at_call 37; refine (scut_any _ _ (by omega)).mono ?_; rw [HL.out, HA.out]; rintro e w' ⟨rfl, n, rfl⟩; replace hbel := below_drewN hbel n)
        | (go_at_call 38; refine (space_any _ _ (by omega)).mono ?_; rintro e w' ⟨rfl, hb1⟩; rw [HS.out]; replace hbel := hbel.trans (hb1.mono hbel.size); clear hb1))
      go_ret3
      exact ⟨rfl, hbel⟩
  · have hb := cutL_plain (l := s.data.toList) (by omega) hp
    have HP := Lib.hid hp
    have HT := Lib.hid (show Lib.trimPrefix s.data.toList [123] = s.data.toList by simp [Lib.trimPrefix, hp])
    have hbel := Below.refl w.heap.size w
    rcases Bool.eq_false_or_eq_true (localL s.data.toList) with hf | hf
    case' inl => rw [hf, if_pos rfl] at hb
    case' inl => rw [cutEnd_some hb]
    case' inr => rw [hf, if_neg (by simp)] at hb
    case' inr => rw [cutEnd_none hb]
    all_goals have HF := Lib.hid hf
    all_goals clear hf hb hp hl
    all_goals
      go_enter Tryz.func27, Tryz.ntmps27
      go_wp2_with (first
        | (go_at_call 36; refine (Tryz.strings_CutPrefix s _ _).mono ?_; rintro e w' ⟨rfl, rfl⟩; rw [show (⟨#[123]⟩ : ByteArray).data.toList = [123] from rfl, HP.out, HT.out, str_of])
        | (go_at_call 39; refine (local_any s _ hm).mono ?_; rintro e w' ⟨rfl, rfl⟩; rw [HF.out])
        | (go_at_call 32; refine (clone_any _ _ (by first | omega | (show (0 : Nat) ≤ _; omega))).mono ?_; rintro e w' ⟨rfl, hb1⟩; replace hbel := hbel.trans (hb1.mono hbel.size); clear hb1))
      go_ret3
      exact ⟨rfl, hbel⟩
end Go.Proofs.YtmnijjbhkbdojaaGreatDoor
