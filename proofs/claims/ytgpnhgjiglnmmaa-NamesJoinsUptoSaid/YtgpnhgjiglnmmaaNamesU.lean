/-
  The walks of NamesKinds, NamesJoins, NamesCuts and NamesApart.
-/
import Derived.Test.YtgpnhgjiglnmmaaNamesG
import Derived.Test.YtgpnhgjiglnmmaaNamesQ
namespace Go.Proofs.Ytgpnhgjiglnmmaa
open Go.RowKit Go.Maps
set_option maxRecDepth 100000

theorem cutEnd_ex (l : List UInt8) : ∃ A B f, CutEnd l = .returned (.tuple #[.string A, .string B, .bool f]) := by
  cases h : cutL l with
  | none => exact ⟨_, _, _, cutEnd_none h⟩
  | some p => exact ⟨_, _, _, cutEnd_some h⟩

theorem walk_NamesKinds (s : ByteArray) (hs : s.size ≤ 1048576) (w : World) :
    Calls Try.prog 3 #[.string s] w fun e w' => e = .returned (.bool true) ∧ Below w.heap.size w w' := by
  have hbel := Below.refl w.heap.size w
  obtain ⟨A, B, f, hC⟩ := cutEnd_ex s.data.toList
  obtain ⟨lb, hlb⟩ : ∃ b, localL s.data.toList = b := ⟨_, rfl⟩
  obtain ⟨sb, hsb⟩ : ∃ b, spaceL s.data.toList = b := ⟨_, rfl⟩
  have HC := Lib.hid hC
  have HL := Lib.hid hlb
  have HS := Lib.hid hsb
  clear hC hlb hsb
  go_enter Try.func3, Try.ntmps3
  go_wp2_with (first
    | (go_at_call 9; refine (cut_any s _ (by omega)).mono ?_; rw [HC.out]; rintro e w1 ⟨rfl, hb1⟩; replace hbel := hbel.trans (hb1.mono hbel.size); clear hb1)
    | (go_at_call 10; refine (rcut_any s _ (by omega)).mono ?_; rw [HC.out]; rintro e w1 ⟨rfl, hb1⟩; replace hbel := hbel.trans (hb1.mono hbel.size); clear hb1)
    | (go_at_call 11; refine (local_any s _ (by omega)).mono ?_; rintro e w' ⟨rfl, rfl⟩; rw [HL.out])
    | (go_at_call 12; refine (rlocal_any s _ (by omega)).mono ?_; rintro e w' ⟨rfl, rfl⟩; rw [HL.out])
    | (go_at_call 13; refine (space_any s _ (by omega)).mono ?_; rintro e w1 ⟨rfl, hb1⟩; rw [HS.out]; replace hbel := hbel.trans (hb1.mono hbel.size); clear hb1)
    | (go_at_call 14; refine (rspace_any s _ (by omega)).mono ?_; rintro e w1 ⟨rfl, hb1⟩; rw [HS.out]; replace hbel := hbel.trans (hb1.mono hbel.size); clear hb1)
    | (go_at_call 15; refine (lives_any _).mono ?_; rintro e w1 ⟨rfl, hb1⟩; replace hbel := hbel.trans (hb1.mono hbel.size); clear hb1))
  go_ret
  exact ⟨rfl, hbel⟩

theorem walk_NamesJoins (s : ByteArray) (hs : s.size ≤ 1048576) (l : ByteArray) (hl : l.size ≤ 1048576) (w : World) :
    Calls Try.prog 4 #[.string s, .string l] w fun e w' => e = .returned (.bool true) ∧ Below w.heap.size w w' := by
  have hbel := Below.refl w.heap.size w
  cases h : joinL s.data.toList l.data.toList with
  | none =>
    have HJ := Lib.hid (joinEnd_none h)
    clear h
    go_enter Try.func4, Try.ntmps4
    go_wp2_with (first
      | (go_at_call 16; refine (join_any s l _ (by omega) (by omega)).mono ?_; rw [HJ.out]; rintro e w1 ⟨rfl, hb1⟩; replace hbel := hbel.trans (hb1.mono hbel.size); clear hb1)
      | (go_at_call 17; refine (rjoin_any s l _ (by omega) (by omega)).mono ?_; rw [HJ.out]; rintro e w1 ⟨rfl, hb1⟩; replace hbel := hbel.trans (hb1.mono hbel.size); clear hb1)
      | (go_at_call 15; refine (lives_any _).mono ?_; rintro e w1 ⟨rfl, hb1⟩; replace hbel := hbel.trans (hb1.mono hbel.size); clear hb1))
    go_ret
    exact ⟨rfl, hbel⟩
  | some f =>
    have HJ := Lib.hid (joinEnd_some h)
    have hlen : f.length ≤ 48 := by
      unfold joinL at h
      split at h
      · rename_i hc
        split at h
        · cases h; have := (local_len hc.1).2; omega
        · split at h
          · cases h
          · cases h; simp only [List.length_cons, List.length_append]; omega
      · cases h
    have HC := Lib.hid (show CutEnd (⟨f.toArray⟩ : ByteArray).data.toList = .returned (.tuple #[.string s, .string l, .bool true]) from cutEnd_some (join_cut h))
    have hfs : (⟨f.toArray⟩ : ByteArray).size ≤ 140737488355328 := by show f.toArray.size ≤ _; simp; omega
    generalize (⟨f.toArray⟩ : ByteArray) = F at *
    clear h
    go_enter Try.func4, Try.ntmps4
    go_wp2_with (first
      | (go_at_call 16; refine (join_any s l _ (by omega) (by omega)).mono ?_; rw [HJ.out]; rintro e w1 ⟨rfl, hb1⟩; replace hbel := hbel.trans (hb1.mono hbel.size); clear hb1)
      | (go_at_call 17; refine (rjoin_any s l _ (by omega) (by omega)).mono ?_; rw [HJ.out]; rintro e w1 ⟨rfl, hb1⟩; replace hbel := hbel.trans (hb1.mono hbel.size); clear hb1)
      | (go_at_call 9; refine (cut_any _ _ hfs).mono ?_; rw [HC.out]; rintro e w1 ⟨rfl, hb1⟩; replace hbel := hbel.trans (hb1.mono hbel.size); clear hb1)
      | (go_at_call 15; refine (lives_any _).mono ?_; rintro e w1 ⟨rfl, hb1⟩; replace hbel := hbel.trans (hb1.mono hbel.size); clear hb1))
    go_ret
    exact ⟨rfl, hbel⟩

theorem walk_NamesCuts (s : ByteArray) (hs : s.size ≤ 140737488355328) (w : World) :
    Calls Try.prog 5 #[.string s] w fun e w' => e = .returned (.bool true) ∧ Below w.heap.size w w' := by
  have hbel := Below.refl w.heap.size w
  cases h : cutL s.data.toList with
  | none =>
    have HC := Lib.hid (cutEnd_none h)
    clear h
    go_enter Try.func5, Try.ntmps5
    go_wp2_with (first
      | (go_at_call 9; refine (cut_any s _ (by omega)).mono ?_; rw [HC.out]; rintro e w1 ⟨rfl, hb1⟩; replace hbel := hbel.trans (hb1.mono hbel.size); clear hb1)
      | (go_at_call 15; refine (lives_any _).mono ?_; rintro e w1 ⟨rfl, hb1⟩; replace hbel := hbel.trans (hb1.mono hbel.size); clear hb1))
    go_ret
    exact ⟨rfl, hbel⟩
  | some p =>
    obtain ⟨a, b⟩ := p
    have HC := Lib.hid (cutEnd_some h)
    have hj := cut_join h
    have HJ := Lib.hid (show JoinEnd (⟨a.toArray⟩ : ByteArray).data.toList (⟨b.toArray⟩ : ByteArray).data.toList = .returned (.tuple #[.string s, .bool true]) from joinEnd_some hj)
    have hab : a.length ≤ 48 ∧ b.length ≤ 48 := by
      unfold joinL at hj
      split at hj
      · rename_i hc
        have := (local_len hc.1).2
        refine ⟨?_, by omega⟩
        rcases hc.2 with h0 | h0
        · rw [h0]; simp
        · exact (space_len h0).2
      · cases hj
    have za : (⟨a.toArray⟩ : ByteArray).size ≤ 140737488355328 := by show a.toArray.size ≤ _; simp; omega
    have zb : (⟨b.toArray⟩ : ByteArray).size ≤ 140737488355328 := by show b.toArray.size ≤ _; simp; omega
    generalize (⟨a.toArray⟩ : ByteArray) = A at *
    generalize (⟨b.toArray⟩ : ByteArray) = B at *
    clear h hj
    go_enter Try.func5, Try.ntmps5
    go_wp2_with (first
      | (go_at_call 9; refine (cut_any s _ (by omega)).mono ?_; rw [HC.out]; rintro e w1 ⟨rfl, hb1⟩; replace hbel := hbel.trans (hb1.mono hbel.size); clear hb1)
      | (go_at_call 16; refine (join_any _ _ _ za zb).mono ?_; rw [HJ.out]; rintro e w1 ⟨rfl, hb1⟩; replace hbel := hbel.trans (hb1.mono hbel.size); clear hb1)
      | (go_at_call 15; refine (lives_any _).mono ?_; rintro e w1 ⟨rfl, hb1⟩; replace hbel := hbel.trans (hb1.mono hbel.size); clear hb1))
    go_ret
    exact ⟨rfl, hbel⟩

theorem bytes_ne {x y : ByteArray} (h : ¬ x.data.toList = y.data.toList) : (x.toList == y.toList) = false ∧ ¬ x.toList = y.toList := by
  rw [Lib.toList_data, Lib.toList_data]
  exact ⟨by simpa using h, h⟩

set_option maxHeartbeats 1000000 in
theorem walk_NamesApart (s : ByteArray) (hs : s.size ≤ 140737488355328) (t : ByteArray) (ht : t.size ≤ 140737488355328) (w : World) :
    Calls Try.prog 8 #[.string s, .string t] w fun e w' => e = .returned (.bool true) ∧ Below w.heap.size w w' := by
  have hbel := Below.refl w.heap.size w
  by_cases hst : s = t
  · subst hst
    obtain ⟨A, B, f, hC⟩ := cutEnd_ex s.data.toList
    have HC := Lib.hid hC
    clear hC
    go_enter Try.func8, Try.ntmps8
    go_wp2_with (first
      | (go_at_call 9; refine (cut_any s _ (by omega)).mono ?_; rw [HC.out]; rintro e w1 ⟨rfl, hb1⟩; replace hbel := hbel.trans (hb1.mono hbel.size); clear hb1)
      | (go_at_call 15; refine (lives_any _).mono ?_; rintro e w1 ⟨rfl, hb1⟩; replace hbel := hbel.trans (hb1.mono hbel.size); clear hb1))
    all_goals go_ret
    all_goals exact ⟨rfl, hbel⟩
  · have hst' : ¬ s.data.toList = t.data.toList := fun h => hst (by rw [← str_of s, ← str_of t, h])
    obtain ⟨n1, n2⟩ := bytes_ne hst'
    cases h : cutL s.data.toList with
    | none =>
      obtain ⟨A, B, f, hC⟩ := cutEnd_ex t.data.toList
      have HC := Lib.hid (cutEnd_none h)
      have HD := Lib.hid hC
      clear h hC hst hst'
      go_enter Try.func8, Try.ntmps8
      go_wp2_with (first
        | (go_at_call 9; with_reducible refine (cut_any s _ (by omega)).mono ?_; rw [HC.out]; rintro e w1 ⟨rfl, hb1⟩; replace hbel := hbel.trans (hb1.mono hbel.size); clear hb1)
        | (go_at_call 9; with_reducible refine (cut_any t _ (by omega)).mono ?_; rw [HD.out]; rintro e w1 ⟨rfl, hb1⟩; replace hbel := hbel.trans (hb1.mono hbel.size); clear hb1)
        | (go_at_call 15; refine (lives_any _).mono ?_; rintro e w1 ⟨rfl, hb1⟩; replace hbel := hbel.trans (hb1.mono hbel.size); clear hb1))
      all_goals go_ret
      all_goals exact ⟨rfl, hbel⟩
    | some p =>
      obtain ⟨a, b⟩ := p
      have HC := Lib.hid (cutEnd_some h)
      cases h' : cutL t.data.toList with
      | none =>
        have HD := Lib.hid (cutEnd_none h')
        clear h h' hst hst'
        go_enter Try.func8, Try.ntmps8
        go_wp2_with (first
          | (go_at_call 9; with_reducible refine (cut_any s _ (by omega)).mono ?_; rw [HC.out]; rintro e w1 ⟨rfl, hb1⟩; replace hbel := hbel.trans (hb1.mono hbel.size); clear hb1)
          | (go_at_call 9; with_reducible refine (cut_any t _ (by omega)).mono ?_; rw [HD.out]; rintro e w1 ⟨rfl, hb1⟩; replace hbel := hbel.trans (hb1.mono hbel.size); clear hb1)
          | (go_at_call 15; refine (lives_any _).mono ?_; rintro e w1 ⟨rfl, hb1⟩; replace hbel := hbel.trans (hb1.mono hbel.size); clear hb1))
        all_goals go_ret
        all_goals exact ⟨rfl, hbel⟩
      | some q =>
        obtain ⟨c, d⟩ := q
        have HD := Lib.hid (cutEnd_some h')
        have hne : ¬ (a = c ∧ b = d) := fun ⟨h1, h2⟩ => hst' (cut_inj h (by rw [h1, h2]; exact h'))
        by_cases hac : a = c
        · subst hac
          have hbd : ¬ b = d := fun hbd => hne ⟨rfl, hbd⟩
          obtain ⟨m1, m2⟩ := bytes_ne (x := ⟨b.toArray⟩) (y := ⟨d.toArray⟩) hbd
          generalize (⟨a.toArray⟩ : ByteArray) = A at *
          generalize (⟨b.toArray⟩ : ByteArray) = B at *
          generalize (⟨d.toArray⟩ : ByteArray) = D at *
          clear h h' hst hst' hne hbd
          go_enter Try.func8, Try.ntmps8
          go_wp2_with (first
            | (go_at_call 9; with_reducible refine (cut_any s _ (by omega)).mono ?_; rw [HC.out]; rintro e w1 ⟨rfl, hb1⟩; replace hbel := hbel.trans (hb1.mono hbel.size); clear hb1)
            | (go_at_call 9; with_reducible refine (cut_any t _ (by omega)).mono ?_; rw [HD.out]; rintro e w1 ⟨rfl, hb1⟩; replace hbel := hbel.trans (hb1.mono hbel.size); clear hb1)
            | (go_at_call 15; refine (lives_any _).mono ?_; rintro e w1 ⟨rfl, hb1⟩; replace hbel := hbel.trans (hb1.mono hbel.size); clear hb1))
          all_goals go_ret
          all_goals exact ⟨rfl, hbel⟩
        · obtain ⟨m1, m2⟩ := bytes_ne (x := ⟨a.toArray⟩) (y := ⟨c.toArray⟩) hac
          generalize (⟨a.toArray⟩ : ByteArray) = A at *
          generalize (⟨b.toArray⟩ : ByteArray) = B at *
          generalize (⟨c.toArray⟩ : ByteArray) = C at *
          generalize (⟨d.toArray⟩ : ByteArray) = D at *
          clear h h' hst hst' hne hac
          go_enter Try.func8, Try.ntmps8
          go_wp2_with (first
            | (go_at_call 9; with_reducible refine (cut_any s _ (by omega)).mono ?_; rw [HC.out]; rintro e w1 ⟨rfl, hb1⟩; replace hbel := hbel.trans (hb1.mono hbel.size); clear hb1)
            | (go_at_call 9; with_reducible refine (cut_any t _ (by omega)).mono ?_; rw [HD.out]; rintro e w1 ⟨rfl, hb1⟩; replace hbel := hbel.trans (hb1.mono hbel.size); clear hb1)
            | (go_at_call 15; refine (lives_any _).mono ?_; rintro e w1 ⟨rfl, hb1⟩; replace hbel := hbel.trans (hb1.mono hbel.size); clear hb1))
          all_goals go_ret
          all_goals exact ⟨rfl, hbel⟩
end Go.Proofs.Ytgpnhgjiglnmmaa
