/-
  events: which events are allowed (valid, normal, formed), and isValue.
-/
import Derived.Test.YtmnijjbhkbdojaaGreatDoorEvP
import Derived.Test.YtmnijjbhkbdojaaGreatDoorSrcH
import Derived.Test.YtmnijjbhkbdojaaGreatDoorNamesD
import Derived.Test.YtmnijjbhkbdojaaGreatDoorNumF
namespace Go.Proofs.YtmnijjbhkbdojaaGreatDoor
open Go.RowKit
set_option maxRecDepth 100000

theorem evalid_any (s : ByteArray) (w : World) :
    Calls Tryz.prog 29 #[.string s] w fun e w' => e = .returned (.bool (validL s.data.toList)) ∧ Below w.heap.size w w' := by
  have hl : s.data.toList.length = s.size := by simp
  by_cases h48 : 48 < s.size
  · have hV : validL s.data.toList = false := by unfold validL; rw [hl, decide_eq_false (by omega)]; rfl
    rw [hV]
    clear hl hV
    have h48i : (48 : Int) < s.size := by omega
    go_enter Tryz.func29, Tryz.ntmps29
    go_wp2
    go_ret
    exact ⟨rfl, Below.refl _ _⟩
  · have hV : validL s.data.toList = (runesL s.data.toList).isSome := by unfold validL; rw [hl, decide_eq_true (by omega)]; rfl
    rw [hV]
    clear hl hV
    go_enter Tryz.func29, Tryz.ntmps29
    go_wp2_with (first
      | (go_at_call 41; refine (runes_any s _ (by omega)).mono ?_; rintro e w1 ⟨v, rfl, _, hb1⟩))
    go_ret
    exact ⟨rfl, hb1⟩

theorem isValue_any (k : Int) (w : World) :
    Calls Tryz.prog 30 #[.int .i64 k] w fun e w' => e = .returned (.bool (valueK k)) ∧ w' = w := by
  by_cases h : valueK k = true
  · have h2 := h
    unfold valueK at h2
    rw [decide_eq_true_iff] at h2
    rcases h2 with rfl | rfl | rfl | rfl | rfl | rfl | rfl
    all_goals
      go_enter Tryz.func30, Tryz.ntmps30
      go_wp2
      go_ret
      exact ⟨rfl, rfl⟩
  · rw [Bool.not_eq_true] at h
    rw [h]
    unfold valueK at h
    rw [decide_eq_false_iff_not] at h
    have d1 : (k == 1) = false := by rw [beq_eq_false_iff_ne]; omega
    have d2 : (k == 2) = false := by rw [beq_eq_false_iff_ne]; omega
    have d3 : (k == 3) = false := by rw [beq_eq_false_iff_ne]; omega
    have d4 : (k == 4) = false := by rw [beq_eq_false_iff_ne]; omega
    have d5 : (k == 5) = false := by rw [beq_eq_false_iff_ne]; omega
    have d7 : (k == 7) = false := by rw [beq_eq_false_iff_ne]; omega
    have d10 : (k == 10) = false := by rw [beq_eq_false_iff_ne]; omega
    clear h
    go_enter Tryz.func30, Tryz.ntmps30
    go_wp2
    go_ret
    exact ⟨rfl, rfl⟩

theorem read_norm (s : ByteArray) : normL s.data.toList = (decide (Nm.readC s.data.toList = 0) && decide (Nm.readS s.data.toList = s)) := by
  unfold normL
  cases h : Nm.readL s.data.toList with
  | none => rw [Nm.readC_none h]; rfl
  | some v =>
    rw [Nm.readC_some h, Nm.readS_some h]
    simp only [decide_true, Bool.true_and]
    rw [decide_eq_decide]
    constructor
    · intro e; rw [e]
    · intro e; have := congrArg (fun x : ByteArray => x.data.toList) e; simpa using this
theorem str_diff {x y : ByteArray} (h : ¬ x = y) : (x.toList == y.toList) = false ∧ ¬ x.toList = y.toList := by
  have h2 : ¬ x.toList = y.toList := by
    rw [Lib.toList_data, Lib.toList_data]
    intro e
    exact h (ByteArray.ext (by have := congrArg List.toArray e; simpa using this))
  exact ⟨by simpa using h2, h2⟩

theorem normal_any (s : ByteArray) (w : World) (hw : Nm.StdW w) (hs : s.size ≤ 140737488355328) :
    Calls Tryz.prog 28 #[.string s] w fun e w' => e = .returned (.bool (normL s.data.toList)) ∧ Below w.heap.size w w' := by
  rw [read_norm]
  have hR := Nm.read_any s w hw (by omega)
  generalize Nm.readC s.data.toList = c at *
  generalize Nm.readS s.data.toList = f at *
  by_cases hc : c = 0
  · subst hc
    by_cases hf : f = s
    · subst hf
      simp only [decide_true, Bool.true_and]
      go_enter Tryz.func28, Tryz.ntmps28
      go_wp2_with (first
        | (go_at_call 40; refine hR.mono ?_; rintro e w1 ⟨rfl, hb1⟩))
      go_ret
      exact ⟨rfl, hb1⟩
    · obtain ⟨n1, n2⟩ := str_diff hf
      rw [decide_eq_false hf, Bool.and_false]
      clear hf
      go_enter Tryz.func28, Tryz.ntmps28
      go_wp2_with (first
        | (go_at_call 40; refine hR.mono ?_; rintro e w1 ⟨rfl, hb1⟩))
      go_ret
      exact ⟨rfl, hb1⟩
  · have d : (c == 0) = false := by rw [beq_eq_false_iff_ne]; exact hc
    rw [decide_eq_false hc, Bool.false_and]
    clear hc
    go_enter Tryz.func28, Tryz.ntmps28
    go_wp2_with (first
      | (go_at_call 40; refine hR.mono ?_; rintro e w1 ⟨rfl, hb1⟩))
    go_ret
    exact ⟨rfl, hb1⟩

theorem cutEnd_ex (l : List UInt8) : ∃ a b : ByteArray, CutEnd l = .returned (.tuple #[.string a, .string b, .bool (fullL l)]) := by
  unfold fullL
  cases h : cutL l with
  | none => exact ⟨_, _, cutEnd_none h⟩
  | some p => exact ⟨_, _, cutEnd_some (a := p.1) (b := p.2) h⟩

theorem named_any (b : Nat) (t : ByteArray) (w : World) (hc : w.cell? ⟨b, 1, none⟩ = some (.string t)) (hs : t.size ≤ 140737488355328) :
    Calls Tryz.prog 26 #[.pointer (some ⟨b, 0, none⟩)] w fun e w' => e = .returned (.bool (fullL t.data.toList)) ∧ Below w.heap.size w w' := by
  obtain ⟨x, y, hE⟩ := cutEnd_ex t.data.toList
  have HE := Lib.hid hE
  generalize fullL t.data.toList = f at *
  clear hE
  go_enter Tryz.func26, Tryz.ntmps26
  go_wp2_with (first
    | (go_at_call 27; refine (cut_any t _ hs).mono ?_; rintro e w1 ⟨he, hb1⟩; rw [HE.out] at he; subst he))
  go_ret
  exact ⟨rfl, hb1⟩
end Go.Proofs.YtmnijjbhkbdojaaGreatDoor
