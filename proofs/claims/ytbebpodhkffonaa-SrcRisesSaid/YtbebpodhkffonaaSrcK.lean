/-
  The walk of SrcRises.
-/
import Derived.Test.YtbebpodhkffonaaSrcJ
namespace Go.Proofs.Ytbebpodhkffonaa
open Go.RowKit
set_option maxRecDepth 100000

def PLe (p q : Nat × Nat) : Prop := p.1 < q.1 ∨ (p.1 = q.1 ∧ p.2 ≤ q.2)
theorem PLe.trans {p q r : Nat × Nat} (h : PLe p q) (k : PLe q r) : PLe p r := by unfold PLe at *; omega
theorem PLe.step (p : Nat × Nat) (b : UInt8) : PLe p (plcStep p b) := by
  unfold PLe plcStep bhL bhC
  simp only
  split
  · left; omega
  · right; split <;> simp
theorem plc_mono (l m : List UInt8) : PLe (plc l) (plc (l ++ m)) := by
  unfold plc
  rw [List.foldl_append]
  generalize List.foldl plcStep (1, 1) l = p
  induction m generalizing p with
  | nil => right; exact ⟨rfl, Nat.le_refl _⟩
  | cons b m ih => exact (PLe.step p b).trans (ih _)
theorem plc_take_mono (l : List UInt8) {a b : Nat} (h : a ≤ b) : PLe (plc (l.take a)) (plc (l.take b)) := by
  have e := List.take_append_drop a (l.take b)
  rw [List.take_take, Nat.min_eq_left h] at e
  rw [← e]
  exact plc_mono _ _

theorem place_int (s : ByteArray) (x : Int) (w : World) (hs : s.size ≤ 140737488355328) (h0 : 0 ≤ x) (h1 : x ≤ s.size) :
    Calls Try.prog 22 #[.string s, .int .i64 x] w fun e w' => e = .returned (.tuple #[.int .i64 (plc (s.data.toList.take x.toNat)).1, .int .i64 (plc (s.data.toList.take x.toNat)).2, .int .i64 0]) ∧ w = w' := by
  obtain ⟨n, rfl⟩ := Int.eq_ofNat_of_zero_le h0
  exact place_any s n w hs (by omega)
theorem tmod_range (x : Int) (n : Nat) (h : x ≤ 0) : -(n : Int) ≤ x.tmod ((n : Int) + 1) ∧ x.tmod ((n : Int) + 1) ≤ 0 := by
  obtain ⟨y, rfl⟩ : ∃ y : Int, x = -y := ⟨-x, by omega⟩
  rw [Int.neg_tmod, Int.tmod_eq_emod_of_nonneg (by omega)]
  have h1 := Int.emod_nonneg y (show ((n : Int) + 1) ≠ 0 by omega)
  have h2 := Int.emod_lt_of_pos y (show (0 : Int) < (n : Int) + 1 by omega)
  omega
theorem emod_range (x : Int) (n : Nat) : 0 ≤ x % ((n : Int) + 1) ∧ x % ((n : Int) + 1) ≤ n := by
  have h1 := Int.emod_nonneg x (show ((n : Int) + 1) ≠ 0 by omega)
  have h2 := Int.emod_lt_of_pos x (show (0 : Int) < (n : Int) + 1 by omega)
  omega

def RisGoal (s : ByteArray) (a b : Int) (w : World) : Prop := Calls Try.prog 9 #[.string s, .int .i64 a, .int .i64 b] w fun e w' => e = .returned (.bool true) ∧ Below w.heap.size w w'

set_option maxHeartbeats 1000000 in
theorem ris_any (s : ByteArray) (hs : s.size ≤ 140737488355328) (a : Int) (b : Int) (w : World) (a1 : -9223372036854775808 ≤ a) (a2 : a ≤ 9223372036854775807) (b1 : -9223372036854775808 ≤ b) (b2 : b ≤ 9223372036854775807) (hh : (a < 0 ∨ 0 ≤ a) ∧ (b < 0 ∨ 0 ≤ b)) : RisGoal s a b w := by
  have tb := tmod_range (b + 1) s.size
  have eb := emod_range b s.size
  have ta := tmod_range (a + 1) s.size
  have ea := emod_range a s.size
  have HB := Lib.hid tb
  have HA := Lib.hid ta
  have EB := Lib.hid eb
  have EA := Lib.hid ea
  clear ta ea tb eb
  obtain ⟨ha | ha, hb | hb⟩ := hh
  all_goals
    unfold RisGoal
    go_enter Try.func9, Try.ntmps9
    go_wp2_with fail
  all_goals
    have hB : (b < 0 → -(s.size : Int) ≤ (b + 1).tmod ((s.size : Int) + 1) ∧ (b + 1).tmod ((s.size : Int) + 1) ≤ 0) := fun h => HB.out (by omega)
    have hA : (a < 0 → -(s.size : Int) ≤ (a + 1).tmod ((s.size : Int) + 1) ∧ (a + 1).tmod ((s.size : Int) + 1) ≤ 0) := fun h => HA.out (by omega)
    have hB2 := EB.out
    have hA2 := EA.out
    refine (place_int s _ _ hs (by omega) (by omega)).mono ?_
    rintro e w1 ⟨rfl, rfl⟩
    clear hB hA hB2 hA2
    generalize hP : plc (s.data.toList.take _) = p
    have HP := Lib.hid hP
    clear hP
    go_wp2_with fail
  all_goals
    have hB : (b < 0 → -(s.size : Int) ≤ (b + 1).tmod ((s.size : Int) + 1) ∧ (b + 1).tmod ((s.size : Int) + 1) ≤ 0) := fun h => HB.out (by omega)
    have hA : (a < 0 → -(s.size : Int) ≤ (a + 1).tmod ((s.size : Int) + 1) ∧ (a + 1).tmod ((s.size : Int) + 1) ≤ 0) := fun h => HA.out (by omega)
    have hB2 := EB.out
    have hA2 := EA.out
    refine (place_int s _ _ hs (by omega) (by omega)).mono ?_
    rintro e w1 ⟨rfl, rfl⟩
    generalize hQ : plc (s.data.toList.take _) = q
    have hle : PLe p q := by
      rw [← HP.out, ← hQ]
      exact plc_take_mono _ (by omega)
    have hbp := plc_bd (s.data.toList.take 0)
    have hp0 : p.1 ≠ 0 ∧ p.2 ≠ 0 := by
      rw [← HP.out]
      exact ⟨(plc_bd _).1, (plc_bd _).2.1⟩
    obtain ⟨hp1, hp2⟩ := hp0
    have hp1' : (1 : Int) ≤ (p.1 : Int) := by omega
    have hp2' : (1 : Int) ≤ (p.2 : Int) := by omega
    clear hB hA hB2 hA2 hQ hbp hp1 hp2
    rcases hle with hle | ⟨hl1, hl2⟩
    · have hlt : (p.1 : Int) < (q.1 : Int) := by omega
      have hlt' : (p.1 : Int) ≤ (q.1 : Int) := by omega
      clear hle
      go_wp2_with (first
        | (go_at_call 15; refine (lives_any _).mono ?_; rintro e w3 ⟨rfl, hb3⟩))
      go_ret
      exact ⟨rfl, hb3⟩
    · have h1 : (p.1 : Int) ≤ (q.1 : Int) := by omega
      have h2 : ¬ (p.1 : Int) < (q.1 : Int) := by omega
      have h3 : (p.2 : Int) ≤ (q.2 : Int) := by omega
      clear hl1 hl2
      go_wp2_with (first
        | (go_at_call 15; refine (lives_any _).mono ?_; rintro e w3 ⟨rfl, hb3⟩))
      go_ret
      exact ⟨rfl, hb3⟩

theorem walk_SrcRises (s : ByteArray) (hs : s.size ≤ 140737488355328) (a : Int) (ha : (Lit.int .i64 a).wf = true) (b : Int) (hb : (Lit.int .i64 b).wf = true) (w : World) :
    Calls Try.prog 9 #[.string s, .int .i64 a, .int .i64 b] w fun e w' => e = .returned (.bool true) ∧ Below w.heap.size w w' := by
  have ha' : -9223372036854775808 ≤ a ∧ a ≤ 9223372036854775807 := by simpa [Lit.wf, IntKind.min, IntKind.max, IntKind.signed, IntKind.bits] using ha
  have hb' : -9223372036854775808 ≤ b ∧ b ≤ 9223372036854775807 := by simpa [Lit.wf, IntKind.min, IntKind.max, IntKind.signed, IntKind.bits] using hb
  exact ris_any s hs a b w ha'.1 ha'.2 hb'.1 hb'.2 ⟨by omega, by omega⟩
end Go.Proofs.Ytbebpodhkffonaa
