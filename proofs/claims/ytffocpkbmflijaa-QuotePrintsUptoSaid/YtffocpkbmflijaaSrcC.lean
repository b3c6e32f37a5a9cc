/-
  The reference's Put: its contract is src's.
-/
import Derived.Test.YtffocpkbmflijaaSrcB
namespace Go.Proofs.Ytffocpkbmflijaa
open Go.RowKit

set_option maxHeartbeats 400000 in
theorem rput_1 (r : Int) (w : World) (hm : mayB r = true) (h0 : 0 ≤ r) (h1 : r < 128) :
    Calls Try.prog 19 #[.int .i64 r] w fun e w' => e = .returned (.tuple #[.string ⟨#[b8 r]⟩, .bool true]) ∧ Below w.heap.size w w' := by
  have hl : longI r = 1 := by unfold longI; repeat (first | rw [if_pos (by omega)] | rw [if_neg (by omega)])
  have HL := Lib.hid hl; clear hl
  have HM := Lib.hid hm; clear hm
  have hnil := ORow.nil w w.heap.size 5
  go_enter Try.func19, Try.ntmps19
  go_wp2_with (first
    | (go_at_call 26; refine (may_any _ _).mono ?_; rintro e w' ⟨rfl, rfl⟩; rw [HM.out])
    | (go_at_call 27; refine (long_any _ _).mono ?_; rintro e w' ⟨rfl, rfl⟩; rw [HL.out])
    | (at_builtin; refine wp_appNb rfl _ _ 34 rfl w.heap.size 5 (.int .u8 0) 1 Try.underlying34 Try.info5 rfl _ _ _ 1 rfl (by exact hnil) (by intro u hu; simp at hu; subst hu <;> rfl) rfl _ rfl (by simp [maxLen]) (by simp) (Nat.le_refl _) ?_; intro v1 w1 hown1 hb1))
  have hrow : ORow w1 w.heap.size 5 v1 ([b8 r].map bV) := by
    simp only [List.map_cons, List.map_nil]
    rw [bV_b8 _ (by omega) (by omega)]
    exact hown1
  have hstr := put_str _ hrow
  first | rw [hstr] | skip
  go_wp2
  go_ret2
  exact ⟨rfl, hb1⟩

set_option maxHeartbeats 400000 in
theorem rput_2 (r : Int) (w : World) (hm : mayB r = true) (h0 : 128 ≤ r) (h1 : r < 2048) :
    Calls Try.prog 19 #[.int .i64 r] w fun e w' => e = .returned (.tuple #[.string ⟨#[b8 (192 + r / 64), b8 (128 + r % 64)]⟩, .bool true]) ∧ Below w.heap.size w w' := by
  have hl : longI r = 2 := by unfold longI; repeat (first | rw [if_pos (by omega)] | rw [if_neg (by omega)])
  have HL := Lib.hid hl; clear hl
  have HM := Lib.hid hm; clear hm
  have hnil := ORow.nil w w.heap.size 5
  go_enter Try.func19, Try.ntmps19
  go_wp2_with (first
    | (go_at_call 26; refine (may_any _ _).mono ?_; rintro e w' ⟨rfl, rfl⟩; rw [HM.out])
    | (go_at_call 27; refine (long_any _ _).mono ?_; rintro e w' ⟨rfl, rfl⟩; rw [HL.out])
    | (at_builtin; refine wp_appNb rfl _ _ 34 rfl w.heap.size 5 (.int .u8 0) 1 Try.underlying34 Try.info5 rfl _ _ _ 2 rfl (by exact hnil) (by intro u hu; simp at hu; rcases hu with rfl | rfl <;> rfl) rfl _ rfl (by simp [maxLen]) (by simp) (Nat.le_refl _) ?_; intro v1 w1 hown1 hb1))
  have hrow : ORow w1 w.heap.size 5 v1 ([b8 (192 + r / 64), b8 (128 + r % 64)].map bV) := by
    simp only [List.map_cons, List.map_nil]
    rw [bV_b8 _ (by omega) (by omega), bV_b8 _ (by omega) (by omega)]
    exact hown1
  have hstr := put_str _ hrow
  first | rw [hstr] | skip
  go_wp2
  go_ret2
  exact ⟨rfl, hb1⟩

set_option maxHeartbeats 400000 in
theorem rput_3 (r : Int) (w : World) (hm : mayB r = true) (h0 : 2048 ≤ r) (h1 : r < 65536) :
    Calls Try.prog 19 #[.int .i64 r] w fun e w' => e = .returned (.tuple #[.string ⟨#[b8 (224 + r / 4096), b8 (128 + r / 64 % 64), b8 (128 + r % 64)]⟩, .bool true]) ∧ Below w.heap.size w w' := by
  have hl : longI r = 3 := by unfold longI; repeat (first | rw [if_pos (by omega)] | rw [if_neg (by omega)])
  have HL := Lib.hid hl; clear hl
  have HM := Lib.hid hm; clear hm
  have hnil := ORow.nil w w.heap.size 5
  go_enter Try.func19, Try.ntmps19
  go_wp2_with (first
    | (go_at_call 26; refine (may_any _ _).mono ?_; rintro e w' ⟨rfl, rfl⟩; rw [HM.out])
    | (go_at_call 27; refine (long_any _ _).mono ?_; rintro e w' ⟨rfl, rfl⟩; rw [HL.out])
    | (at_builtin; refine wp_appNb rfl _ _ 34 rfl w.heap.size 5 (.int .u8 0) 1 Try.underlying34 Try.info5 rfl _ _ _ 3 rfl (by exact hnil) (by intro u hu; simp at hu; rcases hu with rfl | rfl | rfl <;> rfl) rfl _ rfl (by simp [maxLen]) (by simp) (Nat.le_refl _) ?_; intro v1 w1 hown1 hb1))
  have hrow : ORow w1 w.heap.size 5 v1 ([b8 (224 + r / 4096), b8 (128 + r / 64 % 64), b8 (128 + r % 64)].map bV) := by
    simp only [List.map_cons, List.map_nil]
    rw [bV_b8 _ (by omega) (by omega), bV_b8 _ (by omega) (by omega), bV_b8 _ (by omega) (by omega)]
    exact hown1
  have hstr := put_str _ hrow
  first | rw [hstr] | skip
  go_wp2
  go_ret2
  exact ⟨rfl, hb1⟩

set_option maxHeartbeats 400000 in
theorem rput_4 (r : Int) (w : World) (hm : mayB r = true) (h0 : 65536 ≤ r) (h1 : r ≤ 1114111) :
    Calls Try.prog 19 #[.int .i64 r] w fun e w' => e = .returned (.tuple #[.string ⟨#[b8 (240 + r / 262144), b8 (128 + r / 4096 % 64), b8 (128 + r / 64 % 64), b8 (128 + r % 64)]⟩, .bool true]) ∧ Below w.heap.size w w' := by
  have hl : longI r = 4 := by unfold longI; repeat (first | rw [if_pos (by omega)] | rw [if_neg (by omega)])
  have HL := Lib.hid hl; clear hl
  have HM := Lib.hid hm; clear hm
  have hnil := ORow.nil w w.heap.size 5
  go_enter Try.func19, Try.ntmps19
  go_wp2_with (first
    | (go_at_call 26; refine (may_any _ _).mono ?_; rintro e w' ⟨rfl, rfl⟩; rw [HM.out])
    | (go_at_call 27; refine (long_any _ _).mono ?_; rintro e w' ⟨rfl, rfl⟩; rw [HL.out])
    | (at_builtin; refine wp_appNb rfl _ _ 34 rfl w.heap.size 5 (.int .u8 0) 1 Try.underlying34 Try.info5 rfl _ _ _ 4 rfl (by exact hnil) (by intro u hu; simp at hu; rcases hu with rfl | rfl | rfl | rfl <;> rfl) rfl _ rfl (by simp [maxLen]) (by simp) (Nat.le_refl _) ?_; intro v1 w1 hown1 hb1))
  have hrow : ORow w1 w.heap.size 5 v1 ([b8 (240 + r / 262144), b8 (128 + r / 4096 % 64), b8 (128 + r / 64 % 64), b8 (128 + r % 64)].map bV) := by
    simp only [List.map_cons, List.map_nil]
    rw [bV_b8 _ (by omega) (by omega), bV_b8 _ (by omega) (by omega), bV_b8 _ (by omega) (by omega), bV_b8 _ (by omega) (by omega)]
    exact hown1
  have hstr := put_str _ hrow
  first | rw [hstr] | skip
  go_wp2
  go_ret2
  exact ⟨rfl, hb1⟩

theorem rput_no (r : Int) (w : World) (hm : mayB r = false) :
    Calls Try.prog 19 #[.int .i64 r] w fun e w' => e = .returned (.tuple #[.string ⟨#[]⟩, .bool false]) ∧ Below w.heap.size w w' := by
  have HM := Lib.hid hm; clear hm
  go_enter Try.func19, Try.ntmps19
  go_wp2_with (first
    | (go_at_call 26; refine (may_any _ _).mono ?_; rintro e w' ⟨rfl, rfl⟩; rw [HM.out]))
  go_ret2
  exact ⟨rfl, Below.refl _ _⟩

theorem rput_any (r : Int) (w : World) :
    Calls Try.prog 19 #[.int .i64 r] w fun e w' => e = .returned (.tuple #[.string (putS r), .bool (mayB r)]) ∧ Below w.heap.size w w' := by
  by_cases hm : mayB r = true
  · have h0 : 0 ≤ r := by simp [mayB] at hm; omega
    have h1 : r ≤ 1114111 := by simp [mayB] at hm; omega
    unfold putS putL
    rw [hm, if_pos rfl]
    by_cases a : r < 128
    · rw [if_pos a]; exact rput_1 r w hm h0 a
    · rw [if_neg a]
      by_cases b : r < 2048
      · rw [if_pos b]; exact rput_2 r w hm (by omega) b
      · rw [if_neg b]
        by_cases c : r < 65536
        · rw [if_pos c]; exact rput_3 r w hm (by omega) c
        · rw [if_neg c]; exact rput_4 r w hm (by omega) h1
  · have hm : mayB r = false := by simpa using hm
    unfold putS
    rw [hm]
    exact rput_no r w hm

end Go.Proofs.Ytffocpkbmflijaa
