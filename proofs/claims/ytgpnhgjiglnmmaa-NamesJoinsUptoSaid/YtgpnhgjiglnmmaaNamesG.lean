/-
  The reference's Cut and Join (hexaplaref04): the same answers.
-/
import Derived.Test.YtgpnhgjiglnmmaaNamesF
import Derived.Deep.QuietTactic
import Derived.BigQuiet
namespace Go.Proofs.Ytgpnhgjiglnmmaa
open Go.RowKit Go.Maps
set_option maxRecDepth 100000

theorem plain_of {s : ByteArray} (h : ¬ 48 < s.size) (hp : s.size = 0 ∨ ∃ h0 : 0 < s.size, (s[0].toNat : Int) ≠ 123) : cutL s.data.toList = if localL s.data.toList = true then some ([], s.data.toList) else none := by
  refine cutL_plain (by simpa using h) ?_
  rcases hp with hp | ⟨h0, hp⟩
  · rw [List.eq_nil_of_length_eq_zero (l := s.data.toList) (by simpa using hp)]
    rfl
  · rw [bytes_cons s h0]
    simp [Lib.hasPrefix, List.isPrefixOf]
    intro hc
    rw [← hc] at hp
    exact hp rfl
theorem brace_of {s : ByteArray} (h0 : 0 < s.size) (hp : (s[0].toNat : Int) = 123) : s.data.toList = 123 :: s.data.toList.drop 1 := by
  have e := bytes_cons s h0
  have : s[0] = 123 := UInt8.toNat_inj.1 (by rw [show (123 : UInt8).toNat = 123 from rfl]; omega)
  rw [this] at e
  exact e
/-- No closing brace up to k. -/
def noAt (l : List UInt8) (k : Nat) : Prop := ∀ d ∈ (l.drop 1).take (k - 1), noEnd d = true
theorem no_step {s : ByteArray} {k : Nat} (h1 : 1 ≤ k) (hlt : k < s.size) (h : noAt s.data.toList k) (hc : (s[k].toNat : Int) ≠ 125) : noAt s.data.toList (k + 1) := by
  unfold noAt at h ⊢
  rw [show k + 1 - 1 = k by omega, bytes_take s k h1 hlt]
  intro d hd
  rcases List.mem_append.1 hd with hd | hd
  · exact h d hd
  · rw [List.mem_singleton.1 hd]
    unfold noEnd
    rw [decide_eq_true_iff]
    exact hc
theorem no_hit {s : ByteArray} {k : Nat} (h1 : 1 ≤ k) (hlt : k < s.size) (h : noAt s.data.toList k) (hc : (s[k].toNat : Int) = 125) : cutAt (s.data.toList.drop 1) = ((s.data.toList.drop 1).take (k - 1), s.data.toList.drop (k + 1), true) := by
  have e1 : s.data.toList.drop k = 125 :: s.data.toList.drop (k + 1) := by
    rw [drop_cons s k hlt]
    have : s[k] = 125 := UInt8.toNat_inj.1 (by rw [show (125 : UInt8).toNat = 125 from rfl]; omega)
    rw [this]
  have e2 : s.data.toList.drop 1 = (s.data.toList.drop 1).take (k - 1) ++ 125 :: s.data.toList.drop (k + 1) := by
    conv => lhs; rw [← List.take_append_drop (k - 1) (s.data.toList.drop 1)]
    rw [List.drop_drop, show 1 + (k - 1) = k by omega, e1]
  obtain ⟨a1, a2⟩ := span_end (l := s.data.toList.drop (k + 1)) h
  rw [← e2] at a1 a2
  unfold cutAt
  rw [a1, a2]
theorem no_end {s : ByteArray} {k : Nat} (hk : s.size ≤ k) (h : noAt s.data.toList k) : (cutAt (s.data.toList.drop 1)).2.1 = [] := by
  unfold noAt at h
  rw [List.take_of_length_le (by simp; omega)] at h
  have : (s.data.toList.drop 1).dropWhile noEnd = [] := by
    generalize s.data.toList.drop 1 = l at *
    induction l with
    | nil => rfl
    | cons c t ih => rw [List.dropWhile_cons, if_pos (h c List.mem_cons_self)]; exact ih (fun d hd => h d (List.mem_cons_of_mem _ hd))
  unfold cutAt
  rw [this]
theorem extract_mid (s : ByteArray) (k : Nat) : (s.extract 1 k).data.toList = (s.data.toList.drop 1).take (k - 1) := by simp

set_option maxHeartbeats 2000000 in
theorem rcut_any (s : ByteArray) (w : World) (hm : s.size ≤ 140737488355328) :
    Calls Try.prog 10 #[.string s] w fun e w' => e = CutEnd s.data.toList ∧ Below w.heap.size w w' := by
  have hl : s.data.toList.length = s.size := by simp
  have hbel := Below.refl w.heap.size w
  by_cases h48 : 48 < s.size
  · rw [cutEnd_none (cutL_long (by omega))]
    clear hl
    go_enter Try.func10, Try.ntmps10
    go_wp2
    go_ret3
    exact ⟨rfl, hbel⟩
  by_cases h0 : s.size = 0
  · have hE : CutEnd s.data.toList = .returned (.tuple #[.string ⟨#[]⟩, .string ⟨#[]⟩, .bool false]) := by
      rw [List.eq_nil_of_length_eq_zero (l := s.data.toList) (by omega)]
      rfl
    rw [hE]
    have hs : s = ⟨#[]⟩ := ByteArray.ext (Array.eq_empty_of_size_eq_zero h0)
    subst hs
    have HF := Lib.hid (show localL (⟨#[]⟩ : ByteArray).data.toList = false from rfl)
    clear hl hE h0
    go_enter Try.func10, Try.ntmps10
    go_wp2_with (first
      | (go_at_call 12; refine (rlocal_any _ _ (by omega)).mono ?_; rintro e w' ⟨rfl, rfl⟩; rw [HF.out]))
    go_ret3
    exact ⟨rfl, hbel⟩
  have hp0 : 0 < s.size := by omega
  by_cases hc : (s[0].toNat : Int) = 123
  · have hb := cutL_brace (t := s.data.toList.drop 1) (by simp; omega)
    rw [← brace_of hp0 hc] at hb
    have HB := Lib.hid hb
    clear hb hl
    go_enter Try.func10, Try.ntmps10
    go_wp2
    go_loop [6] (fun i => ∃ k : Nat, 1 ≤ k ∧ k ≤ s.size ∧ i = .int .i64 k ∧ Hid (noAt s.data.toList k)) (fun i => s.size - (intOf i).toNat)
    case atStart => exact ⟨1, Nat.le_refl _, by omega, rfl, Lib.hid (fun d hd => by simp at hd)⟩
    case round =>
      obtain ⟨k, hk1, hk, rfl, HK⟩ := hrel
      by_cases hlt : k < s.size
      · by_cases hq : (s[k].toNat : Int) = 125
        · have hcut := no_hit hk1 hlt HK.out hq
          have HB' := HB.out
          rw [hcut] at HB'
          simp only at HB'
          have e1 := extract_mid s k
          have e2 := extract_all s (k + 1)
          rw [← e1, ← e2] at HB'
          have n1 : (s.extract 1 k).size ≤ 48 := by simp; omega
          have n2 : (s.extract (k + 1) s.size).size ≤ 48 := by simp; omega
          have d1 : (1 : Int) ≤ k := by omega
          have d2 : (k : Int) ≤ s.size := by omega
          have d3 : (k : Int) + 1 ≤ s.size := by omega
          have d4 : (0 : Int) ≤ (k : Int) + 1 := by omega
          clear e1 e2 hcut HB HK
          rcases Bool.eq_false_or_eq_true (spaceL (s.extract 1 k).data.toList) with hs | hs
          case' inl => have HS := Lib.hid hs
          case' inr => have HS := Lib.hid hs
          all_goals rcases Bool.eq_false_or_eq_true (localL (s.extract (k + 1) s.size).data.toList) with hf | hf
          all_goals have HF := Lib.hid hf
          case' inl.inl => rw [if_pos ⟨hs, hf⟩] at HB'
          case' inl.inl => have HC := Lib.hid (cutEnd_some HB')
          case' inl.inl => rw [str_of, str_of] at HC
          case' inl.inr => rw [if_neg (by rw [hf]; simp)] at HB'
          case' inl.inr => have HC := Lib.hid (cutEnd_none HB')
          case' inr.inl => rw [if_neg (by rw [hs]; simp)] at HB'
          case' inr.inl => have HC := Lib.hid (cutEnd_none HB')
          case' inr.inr => rw [if_neg (by rw [hs]; simp)] at HB'
          case' inr.inr => have HC := Lib.hid (cutEnd_none HB')
          all_goals clear hs hf HB'
          all_goals
            go_wp2_with (first
              | (go_at_call 14; refine (rspace_any _ _ (by omega)).mono ?_; rintro e w' ⟨rfl, hb1⟩; rw [HS.out]; replace hbel := hbel.trans (hb1.mono hbel.size); clear hb1)
              | (go_at_call 12; refine (rlocal_any _ _ (by omega)).mono ?_; rintro e w' ⟨rfl, rfl⟩; rw [HF.out]))
          all_goals first
            | (go_ret3
               exact ⟨HC.out.symm, hbel⟩)
            | (go_quiet (fail)
               go_wp2
               go_ret3
               exact ⟨HC.out.symm, below_drewN hbel _⟩)
        · have HS := Lib.hid (no_step hk1 hlt HK.out hq)
          go_wp2
          go_round
          case rel => exact ⟨k + 1, by omega, by omega, by go_num, HS⟩
          case measure => simp [intOf]; omega
      · have hne := no_end (by omega) HK.out
        have HB' := HB.out
        rw [hne, if_neg (by simp [localL])] at HB'
        have HC := Lib.hid (cutEnd_none HB')
        clear hne HB' HB
        go_wp2
        go_ret3
        exact ⟨HC.out.symm, hbel⟩
  · have hb := plain_of h48 (.inr ⟨hp0, hc⟩)
    have hcb : ((s[0].toNat : Int) != 123) = true := by simpa using hc
    rcases Bool.eq_false_or_eq_true (localL s.data.toList) with hf | hf
    case' inl => rw [hf, if_pos rfl] at hb
    case' inl => rw [cutEnd_some hb]
    case' inr => rw [hf, if_neg (by simp)] at hb
    case' inr => rw [cutEnd_none hb]
    all_goals have HF := Lib.hid hf
    all_goals clear hf hb hl
    all_goals
      go_enter Try.func10, Try.ntmps10
      go_wp2_with (first
        | (go_at_call 12; refine (rlocal_any s _ hm).mono ?_; rintro e w' ⟨rfl, rfl⟩; rw [HF.out]))
      go_ret3
      exact ⟨rfl, hbel⟩

set_option maxHeartbeats 1000000 in
theorem rjoin_any (s l : ByteArray) (w : World) (hm : s.size ≤ 1099511627776) (hm2 : l.size ≤ 140737488355328) :
    Calls Try.prog 17 #[.string s, .string l] w fun e w' => e = JoinEnd s.data.toList l.data.toList ∧ Below w.heap.size w w' := by
  have hls : s.data.toList.length = s.size := by simp
  have hll : l.data.toList.length = l.size := by simp
  have hbel := Below.refl w.heap.size w
  rcases Bool.eq_false_or_eq_true (localL l.data.toList) with hf | hf
  · have HF := Lib.hid hf
    have h16 := (local_len hf).2
    by_cases h0 : s.size = 0
    · have hs : s = ⟨#[]⟩ := ByteArray.ext (Array.eq_empty_of_size_eq_zero h0)
      subst hs
      rw [joinEnd_some (f := l.data.toList) (by unfold joinL; rw [if_pos ⟨hf, .inl rfl⟩, if_pos rfl])]
      have HS := Lib.hid (show spaceL (⟨#[]⟩ : ByteArray).data.toList = false from rfl)
      clear hf hls h0
      go_enter Try.func17, Try.ntmps17
      go_wp2_with (first
        | (go_at_call 12; refine (rlocal_any l _ hm2).mono ?_; rintro e w' ⟨rfl, rfl⟩; rw [HF.out])
        | (go_at_call 14; refine (rspace_any _ _ hm).mono ?_; rintro e w' ⟨rfl, hb1⟩; rw [HS.out]; replace hbel := hbel.trans (hb1.mono hbel.size); clear hb1))
      go_ret2
      exact ⟨rfl, hbel⟩
    · have hn1 := str_ne h0
      have hn2 := str_ne2 h0
      have hnil : s.data.toList ≠ [] := by intro hc; rw [hc] at hls; simp at hls; omega
      rcases Bool.eq_false_or_eq_true (spaceL s.data.toList) with hs | hs
      case' inl => have HS := Lib.hid hs
      case' inr => have HS := Lib.hid hs
      case inr =>
        rw [joinEnd_none (by unfold joinL; rw [if_neg (by rw [hs]; simp [hnil])])]
        clear hf hls hll h0 hs hnil
        go_enter Try.func17, Try.ntmps17
        go_wp2_with (first
          | (go_at_call 12; refine (rlocal_any l _ hm2).mono ?_; rintro e w' ⟨rfl, rfl⟩; rw [HF.out])
          | (go_at_call 14; refine (rspace_any _ _ hm).mono ?_; rintro e w' ⟨rfl, hb1⟩; rw [HS.out]; replace hbel := hbel.trans (hb1.mono hbel.size); clear hb1))
        go_ret2
        exact ⟨rfl, hbel⟩
      case inl =>
        have h48 := (space_len hs).2
        have HZ := joined_size s l
        have HJ := Lib.hid (joined_str s l)
        by_cases hov : 48 < s.size + l.size + 2
        case' pos => rw [joinEnd_none (by unfold joinL; rw [if_pos ⟨hf, .inr hs⟩, if_neg hnil, if_pos (by omega)])]
        case' neg => rw [joinEnd_some (by unfold joinL; rw [if_pos ⟨hf, .inr hs⟩, if_neg hnil, if_neg (by omega)]), ← HJ.out]
        all_goals
          clear hf hls hll h0 hs hnil HJ
          go_enter Try.func17, Try.ntmps17
          go_wp2_with (first
            | (go_at_call 12; refine (rlocal_any l _ hm2).mono ?_; rintro e w' ⟨rfl, rfl⟩; rw [HF.out])
            | (go_at_call 14; refine (rspace_any _ _ hm).mono ?_; rintro e w' ⟨rfl, hb1⟩; rw [HS.out]; replace hbel := hbel.trans (hb1.mono hbel.size); clear hb1))
          go_ret2
          exact ⟨rfl, hbel⟩
  · have HF := Lib.hid hf
    rw [joinEnd_none (by unfold joinL; rw [if_neg (by rw [hf]; simp)])]
    obtain ⟨sp, hsp⟩ : ∃ b, spaceL s.data.toList = b := ⟨_, rfl⟩
    have HS := Lib.hid hsp
    clear hf hls hll hsp
    go_enter Try.func17, Try.ntmps17
    go_wp2_with (first
      | (go_at_call 12; refine (rlocal_any l _ hm2).mono ?_; rintro e w' ⟨rfl, rfl⟩; rw [HF.out])
      | (go_at_call 14; refine (rspace_any _ _ hm).mono ?_; rintro e w' ⟨rfl, hb1⟩; rw [HS.out]; replace hbel := hbel.trans (hb1.mono hbel.size); clear hb1))
    go_ret2
    exact ⟨rfl, hbel⟩
end Go.Proofs.Ytgpnhgjiglnmmaa
