/-
  The walk of EventsBegins.
-/
import Derived.Test.YtmnijjbhkbdojaaGreatDoorEvK
import Derived.Test.YtmnijjbhkbdojaaGreatDoorEvM
import Derived.IntWalk
namespace Go.Proofs.YtmnijjbhkbdojaaGreatDoor
open Go.RowKit Go.Maps
set_option maxRecDepth 100000

theorem elist_take (xs : List Ev) (P : Ev → Prop) (h : ∀ x ∈ xs, P x) (n : Nat) : ∀ x ∈ xs.take n, P x := fun x hx => h x (List.mem_of_mem_take hx)
/-- The place of the cut. -/
def posI (c : Int) : Int := if c < 0 then -(c + 1) else c
theorem posI_nonneg (c : Int) : 0 ≤ posI c := by unfold posI; split <;> omega
theorem posI_le {c : Int} (h0 : -9223372036854775808 ≤ c) (h1 : c ≤ 9223372036854775807) : posI c ≤ 9223372036854775807 := by unfold posI; split <;> omega
def cutN (c : Int) (n : Nat) : Nat := (posI c % (n : Int)).toNat
theorem cutN_lt (c : Int) {n : Nat} (h : 0 < n) : cutN c n < n ∧ (cutN c n : Int) = posI c % (n : Int) := by
  unfold cutN
  have h1 := Int.emod_nonneg (posI c) (show (n : Int) ≠ 0 by omega)
  have h2 := Int.emod_lt_of_pos (posI c) (show (0 : Int) < n by omega)
  omega

/-- Whole, of what was cut to 120, and of its beginnings. -/
theorem begins_calls (w : World) (A : Option Addr) (c : Nat) (ys : List Ev) (hv : ERead w (.slice A ys.length c) ys) (hx : ∀ x ∈ ys, okE x) (hw : Nm.StdW w) (hn : ys.length ≤ 120) :
    (∀ w', Below w.heap.size w w' → Calls Tryz.prog 15 #[.slice A ys.length c] w' fun e w'' => e = .returned (.tuple #[.int .i64 (wholeN ys), .int .i64 (wholeE ys)]) ∧ Below w'.heap.size w' w'') ∧
    (∀ w', Below w.heap.size w w' → wholeE ys = 0 → ∀ k, k < ys.length → Calls Tryz.prog 15 #[.slice A k c] w' fun e w'' => e = .returned (.tuple #[.int .i64 k, .int .i64 19]) ∧ Below w'.heap.size w' w'') := by
  refine ⟨fun w' hb => ewhole_any w' _ ys (hv.below hb) hx (hw.below hb) (by omega), fun w' hb h0 k hk => ?_⟩
  have := ewhole_any w' _ (ys.take k) ((hv.below hb).take (k := k) (by omega)) (elist_take ys okE hx k) (hw.below hb) (by rw [List.length_take]; omega)
  rw [begins_pure h0 hk] at this
  exact this

/-- Behind the cut. -/
def BTail (w : World) : Ending → World → Prop := fun e w' => e = .returned (.bool true) ∧ Below w.heap.size w w'

set_option maxHeartbeats 8000000 in
theorem walk_EventsBegins (v : Value) (xs : List Ev) (hx : ∀ x ∈ xs, okE x) (hn : xs.length ≤ 4611686018427387904) (c : Int) (wc : (Lit.int .i64 c).wf = true) (w : World) (hw : Nm.StdW w) (hv : ERead w v xs) :
    Calls Tryz.prog 6 #[v, .int .i64 c] w fun e w' => e = .returned (.bool true) ∧ Below w.heap.size w w' := by
  obtain ⟨A, cp, rfl, hlc, hcm, hrr⟩ := id hv
  clear hrr
  have hL := fun w' h => elives_any w' h
  have hcm2 : cp ≤ 9223372036854775807 := by simpa [maxLen] using hcm
  have hci : -9223372036854775808 ≤ c ∧ c ≤ 9223372036854775807 := by simpa [Lit.wf, IntKind.min, IntKind.max, IntKind.signed, IntKind.bits] using wc
  obtain ⟨hc0, hc1⟩ := hci
  have hp0 := posI_nonneg c
  have hp1 := posI_le hc0 hc1
  clear wc
  by_cases h120 : 120 < xs.length
  case' pos =>
    have hys : (xs.take 120).length = 120 := by rw [List.length_take]; omega
    have hv2 : ERead w (.slice A 120 cp) (xs.take 120) := hv.take (by omega)
    have hx2 := elist_take xs okE hx 120
    obtain ⟨q1, q2⟩ := begins_calls w A cp (xs.take 120) (by rw [hys]; exact hv2) hx2 hw (by omega)
    rw [hys] at q1 q2
    have hk := cutN_lt c (n := 120) (by omega)
    have h120i : (120 : Int) < xs.length := by omega
    have hc120 : 120 ≤ cp := by omega
    generalize hn1 : wholeN (xs.take 120) = n1 at *
    generalize hE1 : wholeE (xs.take 120) = E1 at *
    clear hlc h120 hcm hys hv2 hx2 hx hn hv hn1 hE1
    by_cases hz : E1 = 0
    case' pos =>
      subst hz
      have q3 := fun w' hb => q2 w' hb rfl (cutN c 120) hk.1
      obtain ⟨hk1, hk2⟩ := hk
      generalize cutN c 120 = kk at *
      have hki : kk ≤ cp := by omega
      by_cases hneg : c < 0
      case' pos =>
        have hpe : posI c = -(c + 1) := by unfold posI; rw [if_pos hneg]
        have e1 : IntKind.i64.wrap (-(c + 1)) = -(c + 1) := IntWalk.i64_in _ (by omega)
        rw [hpe] at hk2 hp0
        have e3 : (-(c + 1)).tmod 120 = (kk : Int) := by rw [Int.tmod_eq_emod_of_nonneg hp0]; exact hk2.symm
      case' neg =>
        have hpe : posI c = c := by unfold posI; rw [if_neg hneg]
        rw [hpe] at hk2 hp0
        have e3 : c.tmod 120 = (kk : Int) := by rw [Int.tmod_eq_emod_of_nonneg hp0]; exact hk2.symm
      all_goals
        clear hk2 hpe hp1 q2
        go_enter Tryz.func6, Tryz.ntmps6
        go_wp2_with fail
        refine (q1 _ (Below.refl _ _)).mono ?_
        rintro e w1 ⟨rfl, hb1⟩
        go_wp2_with fail
        refine (q3 _ hb1).mono ?_
        rintro e w2 ⟨rfl, hb2⟩
        have hb3 := hb1.trans (hb2.mono hb1.size)
        go_wp2_with (first
          | (go_at_call 14; refine (hL _ (hw.below hb3)).mono ?_; rintro e w4 ⟨rfl, hb4⟩))
        go_ret
        exact ⟨rfl, hb3.trans (hb4.mono hb3.size)⟩
    case' neg =>
      have e0 := ne_beq hz
      have e1 := ne_bne hz
      clear hz q2 hk
      go_enter Tryz.func6, Tryz.ntmps6
      go_wp2_with fail
      refine (q1 _ (Below.refl _ _)).mono ?_
      rintro e w1 ⟨rfl, hb1⟩
      go_wp2_with (first
        | (go_at_call 14; refine (hL _ (hw.below hb1)).mono ?_; rintro e w4 ⟨rfl, hb4⟩))
      go_ret
      exact ⟨rfl, hb1.trans (hb4.mono hb1.size)⟩
  case' neg =>
    obtain ⟨q1, q2⟩ := begins_calls w A cp xs hv hx hw (by omega)
    have h120i : ¬ (120 : Int) < xs.length := by omega
    generalize hE1 : wholeE xs = E1 at *
    by_cases hz : E1 = 0
    case' pos =>
      subst hz
      have hpos : 0 < xs.length := by
        rcases Nat.eq_zero_or_pos xs.length with h | h
        · have h0 := List.eq_nil_of_length_eq_zero h
          rw [h0] at hE1
          exact absurd hE1 (by decide)
        · exact h
      have hk := cutN_lt c hpos
      have q3 := fun w' hb => q2 w' hb rfl (cutN c xs.length) hk.1
      obtain ⟨hk1, hk2⟩ := hk
      generalize cutN c xs.length = kk at *
      generalize wholeN xs = n1 at *
      have hki : kk ≤ cp := by omega
      have hne : (((xs.length : Nat) : Int) == 0) = false := ne_beq (by omega)
      have hne2 : ¬ ((xs.length : Nat) : Int) = 0 := by omega
      generalize hN : xs.length = N at *
      by_cases hneg : c < 0
      case' pos =>
        have hpe : posI c = -(c + 1) := by unfold posI; rw [if_pos hneg]
        have e1 : IntKind.i64.wrap (-(c + 1)) = -(c + 1) := IntWalk.i64_in _ (by omega)
        rw [hpe] at hk2 hp0
        have e3 : (-(c + 1)).tmod (N : Int) = (kk : Int) := by rw [Int.tmod_eq_emod_of_nonneg hp0]; exact hk2.symm
      case' neg =>
        have hpe : posI c = c := by unfold posI; rw [if_neg hneg]
        rw [hpe] at hk2 hp0
        have e3 : c.tmod (N : Int) = (kk : Int) := by rw [Int.tmod_eq_emod_of_nonneg hp0]; exact hk2.symm
      all_goals
        clear hk2 hpe hp1 q2 hE1 hv hx hcm hlc hN
        go_enter Tryz.func6, Tryz.ntmps6
        go_wp2_with fail
        refine (q1 _ (Below.refl _ _)).mono ?_
        rintro e w1 ⟨rfl, hb1⟩
        go_wp2_with fail
        refine (q3 _ hb1).mono ?_
        rintro e w2 ⟨rfl, hb2⟩
        have hb3 := hb1.trans (hb2.mono hb1.size)
        go_wp2_with (first
          | (go_at_call 14; refine (hL _ (hw.below hb3)).mono ?_; rintro e w4 ⟨rfl, hb4⟩))
        go_ret
        exact ⟨rfl, hb3.trans (hb4.mono hb3.size)⟩
    case' neg =>
      have e0 := ne_beq hz
      have e1 := ne_bne hz
      clear hz q2 hE1
      go_enter Tryz.func6, Tryz.ntmps6
      go_wp2_with fail
      refine (q1 _ (Below.refl _ _)).mono ?_
      rintro e w1 ⟨rfl, hb1⟩
      go_wp2_with (first
        | (go_at_call 14; refine (hL _ (hw.below hb1)).mono ?_; rintro e w4 ⟨rfl, hb4⟩))
      go_ret
      exact ⟨rfl, hb1.trans (hb4.mono hb1.size)⟩
end Go.Proofs.YtmnijjbhkbdojaaGreatDoor
