/-
  lives: the document's examples of layer 5 come out true.
-/
import Derived.Test.YtmnijjbhkbdojaaGreatDoorEvJ
import Derived.KernelRfl
namespace Go.Proofs.YtmnijjbhkbdojaaGreatDoor
open Go.RowKit Go.Maps
set_option maxRecDepth 100000

def ev0 (k : Int) : Ev := ⟨k, ⟨#[]⟩, ⟨#[]⟩⟩
def evOne : Ev := ⟨3, ⟨#[49]⟩, ⟨#[]⟩⟩
def live1 : List Pt := [⟨5, 0, []⟩, ⟨0, 5, []⟩]
def live2 : List Pt := [⟨5, 3, []⟩, ⟨0, 5, []⟩]
def live3 : List Pt := [⟨0, 5, []⟩]
theorem live_e1 : stepE [topP] (ev0 5) = 0 := by decide +kernel
theorem live_e2 : stepE live1 evOne = 0 := by decide +kernel
theorem live_e3 : stepE live2 (ev0 6) = 0 := by decide +kernel
theorem live_e4 : stepE live3 (ev0 1) = 19 := by decide +kernel
theorem live_s1 : stepS [topP] (ev0 5) = live1 := by unfold stepS; rw [live_e1, if_pos rfl]; rfl
theorem live_s2 : stepS live1 evOne = live2 := by unfold stepS; rw [live_e2, if_pos rfl]; rfl
theorem live_s3 : stepS live2 (ev0 6) = live3 := by unfold stepS; rw [live_e3, if_pos rfl]; rfl
theorem live_s4 : stepS live3 (ev0 1) = live3 := by unfold stepS; rw [live_e4, if_neg (by decide)]

theorem stepV (w : World) (base g : Nat) (st st' : List Pt) (E : Int) (x : Ev) (hE : stepE st x = E) (hS : stepS st x = st') (h : CAt w base g st) (hg : Good st) (hw : Nm.StdW w) (hs : x.t.size ≤ 140737488355328) :
    Calls Tryz.prog 10 #[.pointer (some ⟨g, 0, none⟩), .agg #[.int .i64 x.k, .string x.t, .string x.v]] w fun e w' => e = .returned (.int .i64 E) ∧ CAt w' base g st' ∧ Tch base cObj w w' := by
  have := estep_any w base g st x h hg hw hs
  unfold SPost at this
  rw [hE, hS] at this
  exact this

set_option maxHeartbeats 4000000 in
theorem elives_any (w : World) (hw : Nm.StdW w) : Calls Tryz.prog 14 #[] w fun e w' => e = .returned (.bool true) ∧ Below w.heap.size w w' := by
  have g0 : Good [topP] := good_start
  have g1 : Good live1 := by have := good_step g0 (ev0 5); rw [live_s1] at this; exact this
  have g2 : Good live2 := by have := good_step g1 evOne; rw [live_s2] at this; exact this
  have g3 : Good live3 := by have := good_step g2 (ev0 6); rw [live_s3] at this; exact this
  have G0 := Lib.hid g0
  have G1 := Lib.hid g1
  have G2 := Lib.hid g2
  have G3 := Lib.hid g3
  have q1 := fun w' g h hh => stepV w' w.heap.size g _ _ _ (ev0 5) live_e1 live_s1 h G0.out hh (by decide)
  have q2 := fun w' g h hh => stepV w' w.heap.size g _ _ _ evOne live_e2 live_s2 h G1.out hh (by decide)
  have q3 := fun w' g h hh => stepV w' w.heap.size g _ _ _ (ev0 6) live_e3 live_s3 h G2.out hh (by decide)
  have q4 := fun w' g h hh => stepV w' w.heap.size g _ _ _ (ev0 1) live_e4 live_s4 h G3.out hh (by decide)
  have qd : ∀ w' g, CAt w' w.heap.size g live2 → Calls Tryz.prog 12 #[.pointer (some ⟨g, 0, none⟩)] w' fun e w'' => e = .returned (.int .i64 1) ∧ w'' = w' := fun w' g h => depth_any w' w.heap.size g live2 h (by decide)
  have qn : ∀ w' g, CAt w' w.heap.size g live3 → Calls Tryz.prog 13 #[.pointer (some ⟨g, 0, none⟩)] w' fun e w'' => e = .returned (.bool true) ∧ w'' = w' := fun w' g h => done_any w' w.heap.size g live3 h (by decide) (by simp [live3])
  simp only [ev0, evOne] at q1 q2 q3 q4
  have hbel := Below.refl w.heap.size w
  clear g0 g1 g2 g3
  go_enter Tryz.func14, Tryz.ntmps14
  go_wp2_with (first
    | (go_at_call 8; refine (cnew_any _ w.heap.size hbel.size).mono ?_; rintro e w1 ⟨g, rfl, hg, hC1, hb1⟩; replace hbel := hbel.trans (hb1.mono hbel.size)))
  go_wp2_with (first
    | (go_at_call 10; refine (q1 _ _ hC1 (hw.below hbel)).mono ?_; rintro e w2 ⟨rfl, hC2, hT2⟩; replace hbel := hbel.trans (hT2.below hbel.size)))
  clear hC1
  refine (q2 _ _ hC2 (hw.below hbel)).mono ?_
  rintro e w3 ⟨rfl, hC3, hT3⟩
  replace hbel := hbel.trans (hT3.below hbel.size)
  go_wp2_with (first
    | (go_at_call 12; refine (qd _ _ hC3).mono ?_; rintro e w4 ⟨rfl, rfl⟩))
  refine (q3 _ _ hC3 (hw.below hbel)).mono ?_
  rintro e w5 ⟨rfl, hC5, hT5⟩
  replace hbel := hbel.trans (hT5.below hbel.size)
  go_wp2_with fail
  refine (q4 _ _ hC5 (hw.below hbel)).mono ?_
  rintro e w6 ⟨rfl, hC6, hT6⟩
  replace hbel := hbel.trans (hT6.below hbel.size)
  go_wp2_with (first
    | (go_at_call 13; refine (qn _ _ hC6).mono ?_; rintro e w7 ⟨rfl, rfl⟩))
  go_ret
  exact ⟨rfl, hbel⟩
end Go.Proofs.YtmnijjbhkbdojaaGreatDoor
