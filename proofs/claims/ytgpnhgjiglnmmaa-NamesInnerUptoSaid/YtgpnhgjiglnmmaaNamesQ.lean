/-
  The laws' own small functions: lives, pick.
-/
import Derived.Test.YtgpnhgjiglnmmaaNamesL
namespace Go.Proofs.Ytgpnhgjiglnmmaa
open Go.RowKit Go.Maps
set_option maxRecDepth 100000

def pickI (c : Int) : Int := (if c < 0 then -(c + 1) else c) % 4
theorem pick_any (c : Int) (w : World) (h0 : -9223372036854775808 ≤ c) (h1 : c ≤ 9223372036854775807) :
    Calls Try.prog 35 #[.int .i64 c, .int .i64 4] w fun e w' => e = .returned (.int .i64 (pickI c)) ∧ w = w' := by
  unfold pickI
  by_cases hc : c < 0
  · rw [if_pos hc]
    have e1 : IntKind.i64.wrap (-(c + 1)) = -(c + 1) := IntWalk.i64_in _ (by omega)
    have e2 : (0 : Int) ≤ -(c + 1) := by omega
    have e3 : (-(c + 1)).tmod 4 = -(c + 1) % 4 := Int.tmod_eq_emod_of_nonneg e2
    go_enter Try.func35, Try.ntmps35
    go_wp2
    go_ret
    exact ⟨rfl, rfl⟩
  · rw [if_neg hc]
    have e2 : 0 ≤ c := by omega
    have e3 : c.tmod 4 = c % 4 := Int.tmod_eq_emod_of_nonneg e2
    go_enter Try.func35, Try.ntmps35
    go_wp2
    go_ret
    exact ⟨rfl, rfl⟩

theorem lives_any (w : World) : Calls Try.prog 15 #[] w fun e w' => e = .returned (.bool true) ∧ Below w.heap.size w w' := by
  have hbel := Below.refl w.heap.size w
  have hC := Lib.hid (show CutEnd (⟨#[123, 117, 125, 97]⟩ : ByteArray).data.toList = .returned (.tuple #[.string ⟨#[117]⟩, .string ⟨#[97]⟩, .bool true]) from cutEnd_some (by decide +kernel))
  have hJ := Lib.hid (show JoinEnd (⟨#[117]⟩ : ByteArray).data.toList (⟨#[97]⟩ : ByteArray).data.toList = .returned (.tuple #[.string ⟨#[123, 117, 125, 97]⟩, .bool true]) from joinEnd_some (by decide +kernel))
  have hB := Lib.hid (show bindE (⟨#[112]⟩ : ByteArray).data.toList (⟨#[117]⟩ : ByteArray).data.toList [[]] = 0 by decide +kernel)
  have hS := Lib.hid (show bindS (⟨#[112]⟩ : ByteArray).data.toList (⟨#[117]⟩ : ByteArray).data.toList [[]] = [[([112], [117])]] by decide +kernel)
  have hP := Lib.hid (show SpaceEnd (⟨#[112]⟩ : ByteArray).data.toList [[([112], [117])]] = .returned (.tuple #[.string ⟨#[117]⟩, .bool true]) from rfl)
  have hL := Lib.hid (show localL (⟨#[97]⟩ : ByteArray).data.toList = true by decide +kernel)
  have hU := Lib.hid (show spaceL (⟨#[117]⟩ : ByteArray).data.toList = true by decide +kernel)
  have z1 : (⟨#[123, 117, 125, 97]⟩ : ByteArray).size ≤ 140737488355328 := by decide
  have z2 : (⟨#[117]⟩ : ByteArray).size ≤ 140737488355328 := by decide
  have z3 : (⟨#[97]⟩ : ByteArray).size ≤ 140737488355328 := by decide
  have z4 : (⟨#[112]⟩ : ByteArray).size ≤ 140737488355328 := by decide
  go_enter Try.func15, Try.ntmps15
  go_wp2_with (first
    | (go_at_call 9; refine (cut_any _ _ z1).mono ?_; rintro e w1 ⟨he, hb1⟩; rw [hC.out] at he; subst he; replace hbel := hbel.trans (hb1.mono hbel.size); clear hb1)
    | (go_at_call 16; refine (join_any _ _ _ z2 z3).mono ?_; rintro e w1 ⟨he, hb1⟩; rw [hJ.out] at he; subst he; replace hbel := hbel.trans (hb1.mono hbel.size); clear hb1)
    | (go_at_call 18; refine (snew_any _ w.heap.size hbel.size).mono ?_; rintro e w1 ⟨rfl, hs, hb1⟩; replace hbel := hbel.trans (hb1.mono hbel.size); clear hb1)
    | (go_at_call 21; refine (open_any _ w.heap.size _ _ hs (by simp)).mono ?_; rintro e w1 ⟨rfl, hs1, ht1⟩; replace hbel := hbel.trans (ht1.below hbel.size); replace hs := hs1; clear hs1 ht1)
    | (go_at_call 22; refine (bind_any _ w.heap.size _ _ _ _ hs z4 z2).mono ?_; rw [hB.out, hS.out]; rintro e w1 ⟨rfl, hs1, ht1⟩; replace hbel := hbel.trans (ht1.below hbel.size); replace hs := hs1; clear hs1 ht1)
    | (go_at_call 20; refine (sspace_any _ w.heap.size _ _ _ z4 hs).mono ?_; rw [hP.out]; rintro e w1 ⟨rfl, hb1⟩; replace hbel := hbel.trans (hb1.mono hbel.size); clear hb1)
    | (go_at_call 11; refine (local_any _ _ z3).mono ?_; rintro e w' ⟨rfl, rfl⟩; rw [hL.out])
    | (go_at_call 13; refine (space_any _ _ z2).mono ?_; rintro e w1 ⟨rfl, hb1⟩; rw [hU.out]; replace hbel := hbel.trans (hb1.mono hbel.size); clear hb1))
  go_ret
  exact ⟨rfl, hbel⟩
end Go.Proofs.Ytgpnhgjiglnmmaa
