/-
  The reference's Local (hexaplaref04): the same answer.
-/
import Derived.Test.YtmbjeagmnjkemaaNamesA
import Derived.Test.YtmbjeagmnjkemaaSrcV
namespace Go.Proofs.Ytmbjeagmnjkemaa
open Go.RowKit Go.Maps
set_option maxRecDepth 100000

/-- All bytes up to k may stand in a local name, the first at its head. -/
def locAt (l : List UInt8) (k : Nat) : Prop := (l.take k).all (fun d => laterB (d.toNat : Int)) = true ∧ (0 < k → ∀ c t, l = c :: t → firstB (c.toNat : Int) = true)
theorem loc_head {s : ByteArray} (h : 0 < s.size) {k : Nat} (hk : 0 < k) (hl : locAt s.data.toList k) : firstB (s[0].toNat : Int) = true := hl.2 hk _ _ (bytes_cons s h)
theorem loc_end {s : ByteArray} (h0 : 0 < s.size) (h16 : s.size ≤ 16) (hl : locAt s.data.toList s.size) : localL s.data.toList = true := by
  have h1 := hl.1
  rw [List.take_of_length_le (by simp)] at h1
  rw [local_eq s h0 h16, loc_head h0 h0 hl, h1]
  rfl
theorem loc_step {s : ByteArray} {k : Nat} (h0 : 0 < s.size) (hlt : k < s.size) (hl : locAt s.data.toList k) (hb : laterB (s[k].toNat : Int) = true) (hz : k = 0 → firstB (s[0].toNat : Int) = true) : locAt s.data.toList (k + 1) := by
  refine ⟨(all_snoc hlt hl.1).trans hb, fun _ c t hct => ?_⟩
  have e := bytes_cons s h0
  rw [hct] at e
  injection e with e1 _
  rw [e1]
  by_cases hk : k = 0
  · exact hz hk
  · exact loc_head h0 (by omega) hl
theorem loc_bad {s : ByteArray} {k : Nat} (h0 : 0 < s.size) (h16 : s.size ≤ 16) (hlt : k < s.size) (hb : laterB (s[k].toNat : Int) = false) : localL s.data.toList = false := by
  rw [local_eq s h0 h16, all_break (p := fun d => laterB (d.toNat : Int)) hlt hb, Bool.and_false]
theorem loc_bad0 {s : ByteArray} (h0 : 0 < s.size) (h16 : s.size ≤ 16) (hb : firstB (s[0].toNat : Int) = false) : localL s.data.toList = false := by
  rw [local_eq s h0 h16, hb, Bool.false_and]

set_option maxHeartbeats 2000000 in
theorem rlocal_any (s : ByteArray) (w : World) (hm : s.size ≤ 140737488355328) :
    Calls Try.prog 28 #[.string s] w fun e w' => e = .returned (.bool (localL s.data.toList)) ∧ w = w' := by
  by_cases h0 : s.size = 0
  · rw [local_long s (.inl h0)]
    have hs : s = ⟨#[]⟩ := ByteArray.ext (Array.eq_empty_of_size_eq_zero h0)
    subst hs
    go_enter Try.func28, Try.ntmps28
    go_wp2
    go_ret
    exact ⟨rfl, rfl⟩
  by_cases h16 : 16 < s.size
  · rw [local_long s (.inr h16)]
    go_enter Try.func28, Try.ntmps28
    go_wp2
    go_ret
    exact ⟨rfl, rfl⟩
  have hp : 0 < s.size := by omega
  have h16' : s.size ≤ 16 := by omega
  go_enter Try.func28, Try.ntmps28
  go_wp2
  go_loop [3] (fun i => ∃ k : Nat, k ≤ s.size ∧ i = .int .i64 k ∧ Hid (locAt s.data.toList k)) (fun i => s.size - (intOf i).toNat)
  case atStart => exact ⟨0, Nat.zero_le _, rfl, Lib.hid ⟨rfl, fun h => absurd h (by decide)⟩⟩
  case round =>
    obtain ⟨k, hk, rfl, HK⟩ := hrel
    by_cases hlt : k < s.size
    · have HB := fun h => Lib.hid (loc_bad hp h16' hlt h)
      have HB0 := fun h => Lib.hid (loc_bad0 hp h16' h)
      have HS := fun h1 h2 => Lib.hid (loc_step hp hlt HK.out h1 h2)
      clear HK
      go_wp2
      all_goals clear hm h0 h16 h16' hk
      all_goals first
        | (go_ret; refine ⟨ret_bool (Eq.symm ?_), rfl⟩)
        | (go_round
           case rel =>
             refine ⟨k + 1, by omega, by go_num, HS ?_ ?_⟩
             · clear HB HB0 HS
               simp only [laterB]
               rw [decide_eq_true_iff]
               simp at *
               try omega
             · rintro rfl
               clear HB HB0 HS
               simp only [firstB]
               rw [decide_eq_true_iff]
               simp at *
               try omega
           case measure => simp [intOf]; omega)
      all_goals
        rcases Bool.eq_false_or_eq_true (laterB (s[k].toNat : Int)) with hL | hL
        · have hk0 : k = 0 := by
            rcases Nat.eq_zero_or_pos k with h | h
            · exact h
            · exfalso
              clear HB HB0 HS
              unfold laterB at hL
              simp [h] at *
              try omega
          subst hk0
          refine (HB0 ?_).out
          clear HB HB0 HS hL
          simp only [firstB]
          rw [decide_eq_false_iff_not]
          simp at *
          try omega
        · exact (HB hL).out
    · have hkn : k = s.size := by omega
      subst hkn
      have HE := Lib.hid (loc_end hp h16' HK.out)
      go_wp2
      go_ret
      rw [HE.out]
      exact ⟨rfl, rfl⟩

end Go.Proofs.Ytmbjeagmnjkemaa
