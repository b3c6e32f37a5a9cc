/-
  The walks of NumGrows and NumStays.
-/
import Derived.Test.YtpffkdknjdjakaaDoorNumF
namespace Go.Proofs.YtpffkdknjdjakaaDoor
open Go.RowKit
set_option maxRecDepth 100000

theorem wf_i64 {n : Int} (h : (Lit.int .i64 n).wf = true) : -9223372036854775808 ≤ n ∧ n ≤ 9223372036854775807 := by simpa [Lit.wf, IntKind.min, IntKind.max, IntKind.signed, IntKind.bits] using h

set_option maxHeartbeats 1000000 in
theorem walk_NumGrows (s : ByteArray) (hs : s.size ≤ 140737488355328) (c : Int) (wc : (Lit.int .i64 c).wf = true) (w : World) (hw : StdW w) :
    Calls Tryd.prog 4 #[.string s, .int .i64 c] w fun e w' => e = .returned (.bool true) ∧ Below w.heap.size w w' := by
  obtain ⟨c1, c2⟩ := wf_i64 wc
  clear wc
  have hgo : ∀ k : Nat, k ≤ s.size → begB s.data.toList = true → begB (s.extract 0 k).data.toList = true := by
    intro k hk h
    rw [Lib.extract_data]
    simp only [Nat.sub_zero, List.drop_zero]
    exact beg_take k h
  have hib := @is_begins s.data.toList
  generalize hB : begB s.data.toList = B at hgo hib
  generalize hI : isB s.data.toList = I at hib
  have HG := Lib.hid hgo
  have HB := Lib.hid hB
  have HI := Lib.hid hI
  have HIB := Lib.hid hib
  clear hgo hB hI hib
  by_cases hc : c < 0
  · have hk : ∃ k : Nat, -(c + 1).tmod (↑s.size + 1) = (k : Int) ∧ k ≤ s.size := by
      have e1 : -(c + 1).tmod (↑s.size + 1) = (-(c + 1)) % (↑s.size + 1) := by
        rw [← Int.neg_tmod, Int.tmod_eq_emod_of_nonneg (by omega)]
      have h1 := Int.emod_nonneg (-(c + 1)) (show (↑s.size + 1 : Int) ≠ 0 by omega)
      have h2 := Int.emod_lt_of_pos (-(c + 1)) (show (0 : Int) < ↑s.size + 1 by omega)
      exact ⟨((-(c + 1)) % (↑s.size + 1)).toNat, by rw [e1]; omega, by omega⟩
    obtain ⟨k, hk, hkl⟩ := hk
    have HK := Lib.hid hk
    clear hk
    go_enter Tryd.func4, Tryd.ntmps4
    go_wp2_with (fail)
    rw [HK.out]
    refine (may_any s _ (by omega)).mono ?_
    rintro e w1 ⟨rfl, rfl⟩
    rw [HB.out, HI.out]
    go_wp2_with (fail)
    refine (may_any (s.extract 0 k) _ (by simp [ByteArray.size_extract]; omega)).mono ?_
    rintro e w1 ⟨rfl, rfl⟩
    have hgk := HG.out k hkl
    generalize begB (s.extract 0 k).data.toList = C at hgk
    generalize isB (s.extract 0 k).data.toList = D
    have hib := HIB.out
    cases B
    · cases I
      · clear hgk hib
        go_wp2_with (go_at_call 11; refine (lives_any _ hw).mono ?_; rintro e w2 ⟨rfl, hb2⟩)
        go_ret
        exact ⟨rfl, hb2⟩
      · exact absurd (hib rfl) (by decide)
    · have hC : C = true := hgk rfl
      subst hC
      clear hgk hib
      cases I
      all_goals
        go_wp2_with (go_at_call 11; refine (lives_any _ hw).mono ?_; rintro e w2 ⟨rfl, hb2⟩)
        go_ret
        exact ⟨rfl, hb2⟩
  · have hk : ∃ k : Nat, c % (↑s.size + 1) = (k : Int) ∧ k ≤ s.size := by
      have h1 := Int.emod_nonneg c (show (↑s.size + 1 : Int) ≠ 0 by omega)
      have h2 := Int.emod_lt_of_pos c (show (0 : Int) < ↑s.size + 1 by omega)
      exact ⟨(c % (↑s.size + 1)).toNat, by omega, by omega⟩
    obtain ⟨k, hk, hkl⟩ := hk
    have HK := Lib.hid hk
    clear hk
    have hc0 : 0 ≤ c := by omega
    go_enter Tryd.func4, Tryd.ntmps4
    go_wp2_with (fail)
    rw [HK.out]
    refine (may_any s _ (by omega)).mono ?_
    rintro e w1 ⟨rfl, rfl⟩
    rw [HB.out, HI.out]
    go_wp2_with (fail)
    refine (may_any (s.extract 0 k) _ (by simp [ByteArray.size_extract]; omega)).mono ?_
    rintro e w1 ⟨rfl, rfl⟩
    have hgk := HG.out k hkl
    generalize begB (s.extract 0 k).data.toList = C at hgk
    generalize isB (s.extract 0 k).data.toList = D
    have hib := HIB.out
    cases B
    · cases I
      · clear hgk hib
        go_wp2_with (go_at_call 11; refine (lives_any _ hw).mono ?_; rintro e w2 ⟨rfl, hb2⟩)
        go_ret
        exact ⟨rfl, hb2⟩
      · exact absurd (hib rfl) (by decide)
    · have hC : C = true := hgk rfl
      subst hC
      clear hgk hib
      cases I
      all_goals
        go_wp2_with (go_at_call 11; refine (lives_any _ hw).mono ?_; rintro e w2 ⟨rfl, hb2⟩)
        go_ret
        exact ⟨rfl, hb2⟩
end Go.Proofs.YtpffkdknjdjakaaDoor
