/-
  events: continues, continuesElem: whether some document goes on with an event.
-/
import Derived.Test.YtalkjgijmceifaaGreatDoorDwA17
namespace Go.Proofs.YtalkjgijmceifaaGreatDoor
open Go.RowKit
set_option maxRecDepth 100000
set_option linter.unusedSectionVars false
variable [Tab] [Fo]

theorem ne_bne {k n : Int} (h : k ≠ n) : (k != n) = true := by simpa using h
theorem ne_beq {k n : Int} (h : k ≠ n) : (k == n) = false := beq_eq_false_iff_ne.2 h
section
variable (b o : Nat) (last : Int) (x : Ev) (w : World)
set_option maxHeartbeats 4000000 in
theorem contElem_any (h1 : w.cell? ⟨b, o + 1, none⟩ = some (.int .i64 last)) :
    Calls Tryz.prog 43 #[.pointer (some ⟨b, o, none⟩), evV x] w fun e w' => e = .returned (.bool (contElem last x.k (emptyT x.t))) ∧ Below w.heap.size w w' := by
  unfold evV
  obtain ⟨k, t, v⟩ := x
  have hbel := (Below.refl w.heap.size w).alloc (Nat.le_refl _) (.cells #[.int .i64 k, .string t, .string v] 38)
  have hc1 := cell?_alloc_old (.cells #[.int .i64 k, .string t, .string v] 38) h1
  simp only
  by_cases k11 : k = 11
  · subst k11
    have hR : contElem last 11 (emptyT t) = decide (last = 0 ∨ last = 11) := by unfold contElem; rw [if_pos rfl]
    rw [hR]
    clear hR
    by_cases l0 : last = 0
    · subst l0
      go_enter Tryz.func43, Tryz.ntmps43
      go_wp2
      go_ret
      exact ⟨rfl, hbel⟩
    · have d0 := ne_beq l0
      by_cases l11 : last = 11
      · subst l11
        go_enter Tryz.func43, Tryz.ntmps43
        go_wp2
        go_ret
        exact ⟨rfl, hbel⟩
      · have d11 := ne_beq l11
        rw [decide_eq_false (by omega : ¬ (last = 0 ∨ last = 11))]
        go_enter Tryz.func43, Tryz.ntmps43
        go_wp2
        go_ret
        exact ⟨rfl, hbel⟩
  have c11 := ne_beq k11
  by_cases k4 : k = 4
  · subst k4
    have hR : contElem last 4 (emptyT t) = (decide (last ≠ 4) && !emptyT t) := by unfold contElem; rw [if_neg (by decide), if_pos rfl]
    rw [hR]
    clear hR
    by_cases l4 : last = 4
    · subst l4
      go_enter Tryz.func43, Tryz.ntmps43
      go_wp2
      go_ret
      exact ⟨rfl, hbel⟩
    · have d4 := ne_beq l4
      have b4 := ne_bne l4
      rw [decide_eq_true l4, Bool.true_and]
      by_cases ht : t.size = 0
      · obtain rfl := str_nil ht
        rw [emptyT_nil]
        go_enter Tryz.func43, Tryz.ntmps43
        go_wp2
        go_ret
        exact ⟨rfl, hbel⟩
      · have n1 := str_ne ht
        have n2 := str_ne2 ht
        rw [emptyT_no ht]
        go_enter Tryz.func43, Tryz.ntmps43
        go_wp2
        go_ret
        exact ⟨rfl, hbel⟩
  have c4 := ne_beq k4
  have hR : contElem last k (emptyT t) = decide (k = 10 ∨ k = 12) := by unfold contElem; rw [if_neg k11, if_neg k4]
  rw [hR]
  clear hR
  by_cases k10 : k = 10
  · subst k10
    go_enter Tryz.func43, Tryz.ntmps43
    go_wp2
    go_ret
    exact ⟨rfl, hbel⟩
  have c10 := ne_beq k10
  by_cases k12 : k = 12
  · subst k12
    go_enter Tryz.func43, Tryz.ntmps43
    go_wp2
    go_ret
    exact ⟨rfl, hbel⟩
  have c12 := ne_beq k12
  rw [decide_eq_false (by omega : ¬ (k = 10 ∨ k = 12))]
  go_enter Tryz.func43, Tryz.ntmps43
  go_wp2
  go_ret
  exact ⟨rfl, hbel⟩

set_option maxHeartbeats 4000000 in
theorem continues_any (kind : Int) (h0 : w.cell? ⟨b, o, none⟩ = some (.int .i64 kind)) (h1 : w.cell? ⟨b, o + 1, none⟩ = some (.int .i64 last)) :
    Calls Tryz.prog 28 #[.pointer (some ⟨b, o, none⟩), evV x] w fun e w' => e = .returned (.bool (contB kind last x.k (emptyT x.t))) ∧ Below w.heap.size w w' := by
  unfold evV
  have hCE := fun w' h => contElem_any b o last x w' h
  unfold evV at hCE
  obtain ⟨k, t, v⟩ := x
  have hbel := (Below.refl w.heap.size w).alloc (Nat.le_refl _) (.cells #[.int .i64 k, .string t, .string v] 38)
  have hc0 := cell?_alloc_old (.cells #[.int .i64 k, .string t, .string v] 38) h0
  have hc1 := cell?_alloc_old (.cells #[.int .i64 k, .string t, .string v] 38) h1
  simp only at hCE ⊢
  obtain ⟨vk, hvk⟩ : ∃ vk, valueK k = vk := ⟨_, rfl⟩
  have HV := Lib.hid hvk
  by_cases q5 : kind = 5
  · subst q5
    have hR : contB 5 last k (emptyT t) = (vk || decide (k = 6)) := by unfold contB; rw [if_pos rfl, hvk]
    rw [hR]
    clear hR hvk
    cases vk with
    | true =>
      go_enter Tryz.func28, Tryz.ntmps28
      go_wp2_with (first
        | (go_at_call 42; refine (isValue_any k _).mono ?_; rintro e w' ⟨rfl, rfl⟩; rw [HV.out]))
      go_ret
      exact ⟨rfl, hbel⟩
    | false =>
      rw [Bool.false_or]
      by_cases k6 : k = 6
      · subst k6
        go_enter Tryz.func28, Tryz.ntmps28
        go_wp2_with (first
          | (go_at_call 42; refine (isValue_any 6 _).mono ?_; rintro e w' ⟨rfl, rfl⟩; rw [HV.out]))
        go_ret
        exact ⟨rfl, hbel⟩
      · have c6 := ne_beq k6
        rw [decide_eq_false k6]
        go_enter Tryz.func28, Tryz.ntmps28
        go_wp2_with (first
          | (go_at_call 42; refine (isValue_any k _).mono ?_; rintro e w' ⟨rfl, rfl⟩; rw [HV.out]))
        go_ret
        exact ⟨rfl, hbel⟩
  have d5 := ne_beq q5
  by_cases q7 : kind = 7
  · subst q7
    by_cases l8 : last = 8
    · subst l8
      have hR : contB 7 8 k (emptyT t) = vk := by unfold contB; rw [if_neg (by decide), if_pos rfl, if_pos rfl, hvk]
      rw [hR]
      clear hR hvk
      go_enter Tryz.func28, Tryz.ntmps28
      go_wp2_with (first
        | (go_at_call 42; refine (isValue_any k _).mono ?_; rintro e w' ⟨rfl, rfl⟩; rw [HV.out]))
      go_ret
      exact ⟨rfl, hbel⟩
    · have e8 := ne_beq l8
      have hR : contB 7 last k (emptyT t) = decide (k = 8 ∨ k = 9) := by unfold contB; rw [if_neg (by decide), if_pos rfl, if_neg l8]
      rw [hR]
      clear hR hvk HV
      by_cases k8 : k = 8
      · subst k8
        go_enter Tryz.func28, Tryz.ntmps28
        go_wp2
        go_ret
        exact ⟨rfl, hbel⟩
      have c8 := ne_beq k8
      by_cases k9 : k = 9
      · subst k9
        go_enter Tryz.func28, Tryz.ntmps28
        go_wp2
        go_ret
        exact ⟨rfl, hbel⟩
      have c9 := ne_beq k9
      rw [decide_eq_false (by omega : ¬ (k = 8 ∨ k = 9))]
      go_enter Tryz.func28, Tryz.ntmps28
      go_wp2
      go_ret
      exact ⟨rfl, hbel⟩
  have d7 := ne_beq q7
  by_cases q10 : kind = 10
  · subst q10
    have hR : contB 10 last k (emptyT t) = contElem last k (emptyT t) := by unfold contB; rw [if_neg (by decide), if_neg (by decide), if_pos rfl]
    rw [hR]
    clear hR hvk HV
    generalize contElem last k (emptyT t) = ce at *
    go_enter Tryz.func28, Tryz.ntmps28
    go_wp2_with (first
      | (go_at_call 43; refine (hCE _ hc1).mono ?_; rintro e w1 ⟨rfl, hb1⟩; replace hbel := hbel.trans (hb1.mono hbel.size)))
    go_ret
    exact ⟨rfl, hbel⟩
  have d10 := ne_beq q10
  have hR : contB kind last k (emptyT t) = (decide (last = 0) && vk) := by unfold contB; rw [if_neg q5, if_neg q7, if_neg q10, hvk]
  rw [hR]
  clear hR hvk hCE
  by_cases l0 : last = 0
  · subst l0
    rw [decide_eq_true rfl, Bool.true_and]
    go_enter Tryz.func28, Tryz.ntmps28
    go_wp2_with (first
      | (go_at_call 42; refine (isValue_any k _).mono ?_; rintro e w' ⟨rfl, rfl⟩; rw [HV.out]))
    go_ret
    exact ⟨rfl, hbel⟩
  · have e0 := ne_beq l0
    rw [decide_eq_false l0, Bool.false_and]
    go_enter Tryz.func28, Tryz.ntmps28
    go_wp2
    go_ret
    exact ⟨rfl, hbel⟩
end
end Go.Proofs.YtalkjgijmceifaaGreatDoor
