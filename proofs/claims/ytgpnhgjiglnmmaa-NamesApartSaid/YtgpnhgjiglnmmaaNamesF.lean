/-
  The reference's Local and Space (hexaplaref04): the same answers.
-/
import Derived.Test.YtgpnhgjiglnmmaaNamesE
import Derived.Test.YtgpnhgjiglnmmaaSrcV
namespace Go.Proofs.Ytgpnhgjiglnmmaa
open Go.RowKit Go.Maps
set_option maxRecDepth 100000

/-- All bytes up to k may stand in a local name, the first at its head. -/
def locAt (l : List UInt8) (k : Nat) : Prop := (l.take k).all (fun d => laterB (d.toNat : Int)) = true ∧ (0 < k → ∀ c t, l = c :: t → firstB (c.toNat : Int) = true)
theorem loc_head {s : ByteArray} (h : 0 < s.size) {k : Nat} (hk : 0 < k) (hl : locAt s.data.toList k) : firstB (s[0].toNat : Int) = true := hl.2 hk _ _ (bytes_cons s h)
theorem loc_end {s : ByteArray} (h0 : 0 < s.size) (h16 : s.size ≤ 16) (hl : locAt s.data.toList s.size) : localL s.data.toList = true := by
  have h1 := hl.1
  rw [List.take_of_length_le (by simp)] at h1
  rw [local_eq s h0 h16, loc_head h0 h0 hl, h1]
  rfl
theorem loc_step {s : ByteArray} {k : Nat} (h0 : 0 < s.size) (hlt : k < s.size) (hl : locAt s.data.toList k) (hb : laterB (s[k].toNat : Int) = true) (hz : k = 0 → firstB (s[0].toNat : Int) = true) : locAt s.data.toList (k + 1) := by
  refine ⟨(all_snoc hlt hl.1).trans hb, fun _ c t hct => ?_⟩
  have e := bytes_cons s h0
  rw [hct] at e
  injection e with e1 _
  rw [e1]
  by_cases hk : k = 0
  · exact hz hk
  · exact loc_head h0 (by omega) hl
theorem loc_bad {s : ByteArray} {k : Nat} (h0 : 0 < s.size) (h16 : s.size ≤ 16) (hlt : k < s.size) (hb : laterB (s[k].toNat : Int) = false) : localL s.data.toList = false := by
  rw [local_eq s h0 h16, all_break (p := fun d => laterB (d.toNat : Int)) hlt hb, Bool.and_false]
theorem loc_bad0 {s : ByteArray} (h0 : 0 < s.size) (h16 : s.size ≤ 16) (hb : firstB (s[0].toNat : Int) = false) : localL s.data.toList = false := by
  rw [local_eq s h0 h16, hb, Bool.false_and]

set_option maxHeartbeats 2000000 in
theorem rlocal_any (s : ByteArray) (w : World) (hm : s.size ≤ 140737488355328) :
    Calls Try.prog 12 #[.string s] w fun e w' => e = .returned (.bool (localL s.data.toList)) ∧ w = w' := by
  by_cases h0 : s.size = 0
  · rw [local_long s (.inl h0)]
    have hs : s = ⟨#[]⟩ := ByteArray.ext (Array.eq_empty_of_size_eq_zero h0)
    subst hs
    go_enter Try.func12, Try.ntmps12
    go_wp2
    go_ret
    exact ⟨rfl, rfl⟩
  by_cases h16 : 16 < s.size
  · rw [local_long s (.inr h16)]
    go_enter Try.func12, Try.ntmps12
    go_wp2
    go_ret
    exact ⟨rfl, rfl⟩
  have hp : 0 < s.size := by omega
  have h16' : s.size ≤ 16 := by omega
  go_enter Try.func12, Try.ntmps12
  go_wp2
  go_loop [3] (fun i => ∃ k : Nat, k ≤ s.size ∧ i = .int .i64 k ∧ Hid (locAt s.data.toList k)) (fun i => s.size - (intOf i).toNat)
  case atStart => exact ⟨0, Nat.zero_le _, rfl, Lib.hid ⟨rfl, fun h => absurd h (by decide)⟩⟩
  case round =>
    obtain ⟨k, hk, rfl, HK⟩ := hrel
    by_cases hlt : k < s.size
    · have HB := fun h => Lib.hid (loc_bad hp h16' hlt h)
      have HB0 := fun h => Lib.hid (loc_bad0 hp h16' h)
      have HS := fun h1 h2 => Lib.hid (loc_step hp hlt HK.out h1 h2)
      clear HK
      go_wp2
      all_goals clear hm h0 h16 h16' hk
      all_goals first
        | (go_ret; refine ⟨ret_bool (Eq.symm ?_), rfl⟩)
        | (go_round
           case rel =>
             refine ⟨k + 1, by omega, by go_num, HS ?_ ?_⟩
             · clear HB HB0 HS
               simp only [laterB]
               rw [decide_eq_true_iff]
               simp at *
               try omega
             · rintro rfl
               clear HB HB0 HS
               simp only [firstB]
               rw [decide_eq_true_iff]
               simp at *
               try omega
           case measure => simp [intOf]; omega)
      all_goals
        rcases Bool.eq_false_or_eq_true (laterB (s[k].toNat : Int)) with hL | hL
        · have hk0 : k = 0 := by
            rcases Nat.eq_zero_or_pos k with h | h
            · exact h
            · exfalso
              clear HB HB0 HS
              unfold laterB at hL
              simp [h] at *
              try omega
          subst hk0
          refine (HB0 ?_).out
          clear HB HB0 HS hL
          simp only [firstB]
          rw [decide_eq_false_iff_not]
          simp at *
          try omega
        · exact (HB hL).out
    · have hkn : k = s.size := by omega
      subst hkn
      have HE := Lib.hid (loc_end hp h16' HK.out)
      go_wp2
      go_ret
      rw [HE.out]
      exact ⟨rfl, rfl⟩

theorem badB_false {b : Int} (h : 33 ≤ b) (h1 : b ≠ 123) (h2 : b ≠ 125) (h3 : b ≠ 34) (h4 : b ≠ 60) (h5 : b ≠ 62) (h6 : b ≠ 38) (h7 : b ≠ 92) : badB b = false := by
  unfold badB
  rw [decide_eq_false_iff_not]
  omega

set_option maxHeartbeats 1000000 in
theorem rspace_any (s : ByteArray) (w : World) (hm : s.size ≤ 1099511627776) :
    Calls Try.prog 14 #[.string s] w fun e w' => e = .returned (.bool (spaceL s.data.toList)) ∧ Below w.heap.size w w' := by
  have hl : s.data.toList.length = s.size := by simp
  rcases Bool.eq_false_or_eq_true (runesL s.data.toList).isSome with hv | hv
  case inr =>
    rw [show spaceL s.data.toList = false by unfold spaceL; rw [hv]; rfl]
    have HV := Lib.hid hv
    clear hv hl
    go_enter Try.func14, Try.ntmps14
    go_wp2_with (first
      | (go_at_call 34; refine (valid_any s _ hm).mono ?_; rintro e w1 ⟨rfl, hb1⟩; rw [HV.out]))
    go_ret
    exact ⟨rfl, hb1⟩
  case inl =>
    have HV := Lib.hid hv
    by_cases h0 : s.size = 0 ∨ 48 < s.size
    · rw [space_long s h0]
      clear hv hl
      rcases h0 with h0 | h0
      · have hs : s = ⟨#[]⟩ := ByteArray.ext (Array.eq_empty_of_size_eq_zero h0)
        subst hs
        clear h0
        go_enter Try.func14, Try.ntmps14
        go_wp2_with (first
          | (go_at_call 34; refine (valid_any _ _ hm).mono ?_; rintro e w1 ⟨rfl, hb1⟩; rw [HV.out]))
        go_ret
        exact ⟨rfl, hb1⟩
      · go_enter Try.func14, Try.ntmps14
        go_wp2_with (first
          | (go_at_call 34; refine (valid_any s _ hm).mono ?_; rintro e w1 ⟨rfl, hb1⟩; rw [HV.out]))
        go_ret
        exact ⟨rfl, hb1⟩
    have h1 : 1 ≤ s.size := by omega
    have h48 : s.size ≤ 48 := by omega
    have hR := space_eq s (by omega) (by omega)
    rw [hv, Bool.true_and] at hR
    generalize hgl : spaceL s.data.toList = R at *
    have HR := Lib.hid hR
    clear hR hgl h0 hv hl
    go_enter Try.func14, Try.ntmps14
    go_wp2_with (first
      | (go_at_call 34; refine (valid_any s _ hm).mono ?_; rintro e w1 ⟨rfl, hb1⟩; rw [HV.out]))
    go_loop [4] (fun i => ∃ k : Nat, k ≤ s.size ∧ i = .int .i64 k ∧ Hid ((s.data.toList.take k).all (fun d => !badB (d.toNat : Int)) = true)) (fun i => s.size - (intOf i).toNat)
    case atStart => exact ⟨0, Nat.zero_le _, rfl, Lib.hid rfl⟩
    case round =>
      obtain ⟨k, hk, rfl, HK⟩ := hrel
      by_cases hlt : k < s.size
      · have HX := fun hb => Lib.hid (all_break (p := fun d => !badB (d.toNat : Int)) hlt hb)
        have HY := Lib.hid (all_snoc (p := fun d => !badB (d.toNat : Int)) hlt HK.out)
        clear HK
        go_wp2
        all_goals first
          | (go_ret
             refine ⟨ret_bool ?_, hb1⟩
             rw [HR.out, (HX ?_).out]
             clear HX HY HR HV
             simp [badB] at *
             try omega)
          | (go_round
             case rel =>
               refine ⟨k + 1, by omega, by go_num, Lib.hid (HY.out.trans ?_)⟩
               clear HX HY HR HV
               rw [badB_false]
               all_goals (simp at *; try omega)
             case measure => simp [intOf]; omega)
      · go_wp2
        go_ret
        refine ⟨ret_bool ?_, hb1⟩
        have hK := HK.out
        rw [List.take_of_length_le (by simp; omega)] at hK
        rw [HR.out, hK]
end Go.Proofs.Ytgpnhgjiglnmmaa
