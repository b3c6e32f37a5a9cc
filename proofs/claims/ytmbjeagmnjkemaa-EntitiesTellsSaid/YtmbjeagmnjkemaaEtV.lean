/-
  The laws' own small functions (hexaplalaw13): pick, lives, few.
-/
import Derived.Test.YtmbjeagmnjkemaaEtD
import Derived.IntWalk
import Derived.BigQuiet
namespace Go.Proofs.Ytmbjeagmnjkemaa
open Go.RowKit Go.Maps
set_option maxRecDepth 100000
set_option linter.unusedSimpArgs false
set_option linter.unusedVariables false
set_option linter.unusedSectionVars false
variable [Fo]

def pick13 (c : Int) : Int := (if c < 0 then -(c + 1) else c) % 3
theorem pick13_any (c : Int) (w : World) (h0 : -9223372036854775808 ≤ c) (h1 : c ≤ 9223372036854775807) :
    Calls Try.prog 18 #[.int .i64 c, .int .i64 3] w fun e w' => e = .returned (.int .i64 (pick13 c)) ∧ w = w' := by
  unfold pick13
  by_cases hc : c < 0
  · rw [if_pos hc]
    have e1 : IntKind.i64.wrap (-(c + 1)) = -(c + 1) := IntWalk.i64_in _ (by omega)
    have e2 : (0 : Int) ≤ -(c + 1) := by omega
    have e3 : (-(c + 1)).tmod 3 = -(c + 1) % 3 := Int.tmod_eq_emod_of_nonneg e2
    go_enter Try.func18, Try.ntmps18
    go_wp2
    go_ret
    exact ⟨rfl, rfl⟩
  · rw [if_neg hc]
    have e2 : 0 ≤ c := by omega
    have e3 : c.tmod 3 = c % 3 := Int.tmod_eq_emod_of_nonneg e2
    go_enter Try.func18, Try.ntmps18
    go_wp2
    go_ret
    exact ⟨rfl, rfl⟩

theorem lives13_any (w : World) : Calls Try.prog 13 #[] w fun e w' => e = .returned (.bool true) ∧ Below w.heap.size w w' := by
  have hD := Lib.hid (show defC [] (⟨#[97]⟩ : ByteArray).data.toList (⟨#[120]⟩ : ByteArray).data.toList = 0 by decide +kernel)
  have hE := Lib.hid (show defE [] (⟨#[97]⟩ : ByteArray).data.toList (⟨#[120]⟩ : ByteArray).data.toList = [([97], [120])] by decide +kernel)
  have hF := Lib.hid (show fillL [([97], [120])] (⟨#[49, 38, 97, 59, 38, 108, 116, 59, 50]⟩ : ByteArray).data.toList 0 = ⟨[49, 120, 60, 50], 0, 9, 1⟩ by kernel_rfl)
  have z1 : (⟨#[97]⟩ : ByteArray).size ≤ 140737488355328 := by decide
  have z2 : (⟨#[120]⟩ : ByteArray).size ≤ 140737488355328 := by decide
  have z3 : (⟨#[49, 38, 97, 59, 38, 108, 116, 59, 50]⟩ : ByteArray).size ≤ 100000000 := by decide
  have hs2 : sizeE [([97], [120])] = 2 := by decide
  go_enter Try.func13, Try.ntmps13
  go_wp2_with (first
    | (go_at_call 7; refine (enew_any _).mono ?_; rintro x w1 ⟨e, mb, rfl, he, hm, h1, hb1⟩)
    | (go_at_call 15; refine (edefine_any _ e mb _ _ _ _ h1 z1 z2).mono ?_; rw [hD.out, hE.out]; rintro x w2 ⟨rfl, h2, t2⟩; have hb2 := hb1.trans (t2.below hb1.size he hm))
    | (go_at_call 14; refine (efill_any _ e mb _ _ _ h2 z3).mono ?_; rw [hF.out]; rintro x w3 ⟨rfl, h3, t3⟩; have hb3 := hb2.trans (t3.below hb2.size he hm))
    | (go_at_call 12; refine (etold_any _ e mb _ _ h3).mono ?_; rintro x w4 ⟨rfl, rfl⟩)
    | (go_at_call 10; refine (esize_any _ e mb _ _ h3).mono ?_; rw [hs2]; rintro x w5 ⟨rfl, rfl⟩))
  go_ret
  exact ⟨rfl, hb3⟩
end Go.Proofs.Ytmbjeagmnjkemaa
