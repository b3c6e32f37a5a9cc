/-
  Put's contract: the bytes of a character, or none.
-/
import Derived.Test.YtmboonmefmobcaaSrcA
import Derived.Test.YtmboonmefmobcaaJump
namespace Go.Proofs.Ytmboonmefmobcaa
open Go.RowKit
set_option maxRecDepth 100000
theorem bV_b8 (n : Int) (h0 : 0 ≤ n) (h1 : n < 256) : bV (b8 n) = .int .u8 n := (bV_of n h0 h1).symm
theorem put_str {w : World} {base : Nat} {v : Value} (l : List UInt8) (h : ORow w base 5 v (l.map bV)) : (convert 30 9 v).run Try.prog w = .ok (.string ⟨l.toArray⟩) w :=
  run_string_of_row _ _ l Try.underlying30 Try.underlying5 Try.underlying9 h

set_option maxHeartbeats 400000 in
theorem put_2 (r : Int) (w : World) (hm : mayB r = true) (h0 : 128 ≤ r) (h1 : r < 2048) :
    Calls Try.prog 27 #[.int .i64 r] w fun e w' => e = .returned (.tuple #[.string ⟨#[b8 (192 + r / 64), b8 (128 + r % 64)]⟩, .bool true]) ∧ Below w.heap.size w w' := by
  have e1 := u8_or192 (r / 64) (by omega) (by omega)
  have hnil := ORow.nil w w.heap.size 5
  go_enter Try.func27, Try.ntmps27
  go_wp2
  refine wp_scope_fwd 2 ?_
  generalize hQ : Exit.fwd _ _ _ 2 = Q2
  go_wp2_with (first
    | (go_at_call 30; refine (isch_any _ _).mono ?_; rintro e w' ⟨rfl, rfl⟩)
    | (at_builtin; refine wp_app1b rfl _ _ 30 rfl w.heap.size 5 (.int .u8 0) 1 Try.underlying30 Try.info5 rfl _ _ _ rfl (by assumption) rfl _ rfl (by simp [maxLen]) (by simp) (Nat.le_refl _) ?_; intro v1 w1 hown1 hb1))
  clear hnil
  go_step3
  show Q2 _ _ _
  rw [← hQ]
  refine Exit.fwd_goto 1 _ _ rfl ?_
  generalize hQ1 : Exit.fwd _ _ _ 1 = Q1
  go_wp2_with (first
    | (go_at_call 31; refine (tail_any _ (by omega) (by omega) _).mono ?_; rintro e w' ⟨rfl, rfl⟩)
    | (at_builtin; refine wp_app1b rfl _ _ 30 rfl w.heap.size 5 (.int .u8 0) 1 Try.underlying30 Try.info5 rfl _ _ _ rfl (by assumption) rfl _ rfl (by simp [maxLen]) (by simp) hb1.size ?_; intro v2 w2 hown2 hb2))
  have hrow : ORow w2 w.heap.size 5 v2 ([b8 (192 + r / 64), b8 (128 + r % 64)].map bV) := by
    simp only [List.map_cons, List.map_nil]
    rw [bV_b8 _ (by omega) (by omega), bV_b8 _ (by omega) (by omega)]
    exact hown2
  have hstr := put_str _ hrow
  clear hown1 hown2
  go_wp2
  rw [hstr]
  go_wp2
  rw [← hQ1, Exit.fwd_ret]
  go_ret2
  exact ⟨rfl, hb1.trans hb2⟩

set_option maxHeartbeats 400000 in
theorem put_3 (r : Int) (w : World) (hm : mayB r = true) (h0 : 2048 ≤ r) (h1 : r < 65536) :
    Calls Try.prog 27 #[.int .i64 r] w fun e w' => e = .returned (.tuple #[.string ⟨#[b8 (224 + r / 4096), b8 (128 + r / 64 % 64), b8 (128 + r % 64)]⟩, .bool true]) ∧ Below w.heap.size w w' := by
  have e1 := u8_or224 (r / 4096) (by omega) (by omega)
  have hnil := ORow.nil w w.heap.size 5
  go_enter Try.func27, Try.ntmps27
  go_wp2
  refine wp_scope_fwd 2 ?_
  generalize hQ : Exit.fwd _ _ _ 2 = Q2
  go_wp2_with (first
    | (go_at_call 30; refine (isch_any _ _).mono ?_; rintro e w' ⟨rfl, rfl⟩)
    | (at_builtin; refine wp_app1b rfl _ _ 30 rfl w.heap.size 5 (.int .u8 0) 1 Try.underlying30 Try.info5 rfl _ _ _ rfl (by exact hnil) rfl _ rfl (by simp [maxLen]) (by simp) (Nat.le_refl _) ?_; intro v1 w1 hown1 hb1))
  go_step3
  show Q2 _ _ _
  rw [← hQ]
  refine Exit.fwd_goto 1 _ _ rfl ?_
  generalize hQ1 : Exit.fwd _ _ _ 1 = Q1
  go_wp2_with (first
    | (go_at_call 31; refine (tail_any _ (by omega) (by omega) _).mono ?_; rintro e w' ⟨rfl, rfl⟩)
    | (at_builtin; refine wp_app1b rfl _ _ 30 rfl w.heap.size 5 (.int .u8 0) 1 Try.underlying30 Try.info5 rfl _ _ _ rfl (by exact hown1) rfl _ rfl (by simp [maxLen]) (by simp) hb1.size ?_; intro v2 w2 hown2 hb2))
  go_step3
  go_wp2_with (first
    | (go_at_call 31; refine (tail_any _ (by omega) (by omega) _).mono ?_; rintro e w' ⟨rfl, rfl⟩)
    | (at_builtin; refine wp_app1b rfl _ _ 30 rfl w.heap.size 5 (.int .u8 0) 1 Try.underlying30 Try.info5 rfl _ _ _ rfl (by exact hown2) rfl _ rfl (by simp [maxLen]) (by simp) (Nat.le_trans hb1.size hb2.size) ?_; intro v3 w3 hown3 hb3))
  have hrow : ORow w3 w.heap.size 5 v3 ([b8 (224 + r / 4096), b8 (128 + r / 64 % 64), b8 (128 + r % 64)].map bV) := by
    simp only [List.map_cons, List.map_nil]
    rw [bV_b8 _ (by omega) (by omega), bV_b8 _ (by omega) (by omega), bV_b8 _ (by omega) (by omega)]
    exact hown3
  have hstr := put_str _ hrow
  go_wp2
  rw [hstr]
  go_wp2
  rw [← hQ1, Exit.fwd_ret]
  go_ret2
  exact ⟨rfl, ((hb1.trans hb2).trans hb3)⟩

set_option maxHeartbeats 400000 in
theorem put_4 (r : Int) (w : World) (hm : mayB r = true) (h0 : 65536 ≤ r) (h1 : r ≤ 1114111) :
    Calls Try.prog 27 #[.int .i64 r] w fun e w' => e = .returned (.tuple #[.string ⟨#[b8 (240 + r / 262144), b8 (128 + r / 4096 % 64), b8 (128 + r / 64 % 64), b8 (128 + r % 64)]⟩, .bool true]) ∧ Below w.heap.size w w' := by
  have e1 := u8_or240 (r / 262144) (by omega) (by omega)
  have hnil := ORow.nil w w.heap.size 5
  go_enter Try.func27, Try.ntmps27
  go_wp2
  refine wp_scope_fwd 2 ?_
  generalize hQ : Exit.fwd _ _ _ 2 = Q2
  go_wp2_with (first
    | (go_at_call 30; refine (isch_any _ _).mono ?_; rintro e w' ⟨rfl, rfl⟩)
    | (go_at_call 31; refine (tail_any _ (by omega) (by omega) _).mono ?_; rintro e w' ⟨rfl, rfl⟩)
    | (at_builtin; refine wp_appNb rfl _ _ 30 rfl w.heap.size 5 (.int .u8 0) 1 Try.underlying30 Try.info5 rfl _ _ _ 2 rfl (by exact hnil) (by intro u hu; simp at hu; rcases hu with rfl | rfl <;> rfl) rfl _ rfl (by simp [maxLen]) (by simp) (Nat.le_refl _) ?_; intro v1 w1 hown1 hb1))
  go_step3
  go_wp2_with (first
    | (go_at_call 31; refine (tail_any _ (by omega) (by omega) _).mono ?_; rintro e w' ⟨rfl, rfl⟩)
    | (at_builtin; refine wp_app1b rfl _ _ 30 rfl w.heap.size 5 (.int .u8 0) 1 Try.underlying30 Try.info5 rfl _ _ _ rfl (by exact hown1) rfl _ rfl (by simp [maxLen]) (by simp) hb1.size ?_; intro v2 w2 hown2 hb2))
  go_step3
  go_wp2_with (first
    | (go_at_call 31; refine (tail_any _ (by omega) (by omega) _).mono ?_; rintro e w' ⟨rfl, rfl⟩)
    | (at_builtin; refine wp_app1b rfl _ _ 30 rfl w.heap.size 5 (.int .u8 0) 1 Try.underlying30 Try.info5 rfl _ _ _ rfl (by exact hown2) rfl _ rfl (by simp [maxLen]) (by simp) (Nat.le_trans hb1.size hb2.size) ?_; intro v3 w3 hown3 hb3))
  have hrow : ORow w3 w.heap.size 5 v3 ([b8 (240 + r / 262144), b8 (128 + r / 4096 % 64), b8 (128 + r / 64 % 64), b8 (128 + r % 64)].map bV) := by
    simp only [List.map_cons, List.map_nil]
    rw [bV_b8 _ (by omega) (by omega), bV_b8 _ (by omega) (by omega), bV_b8 _ (by omega) (by omega), bV_b8 _ (by omega) (by omega)]
    exact hown3
  have hstr := put_str _ hrow
  go_wp2
  rw [hstr]
  go_wp2
  rw [← hQ, Exit.fwd_ret]
  go_ret2
  exact ⟨rfl, ((hb1.trans hb2).trans hb3)⟩

set_option maxHeartbeats 400000 in
theorem put_1 (r : Int) (w : World) (h0 : 0 ≤ r) (h1 : r < 128) :
    Calls Try.prog 27 #[.int .i64 r] w fun e w' => e = .returned (.tuple #[.string ⟨#[b8 r]⟩, .bool true]) ∧ Below w.heap.size w w' := by
  have hm : mayB r = true := by simp [mayB]; omega
  have hrow : ORow (w.alloc (.cells #[.int .u8 r] 5)) w.heap.size 5 (.slice (some ⟨w.heap.size, 0, none⟩) 1 1) ([b8 r].map bV) := by
    simp only [List.map_cons, List.map_nil]
    rw [bV_b8 _ (by omega) (by omega)]
    exact ORow.lit w _ _ _ (Nat.le_refl _) (by simp [maxLen])
  have hstr := put_str _ hrow
  go_enter Try.func27, Try.ntmps27
  go_wp2
  refine wp_scope_fwd 2 ?_
  generalize hQ : Exit.fwd _ _ _ 2 = Q2
  go_wp2_with (first
    | (go_at_call 30; refine (isch_any _ _).mono ?_; rintro e w' ⟨rfl, rfl⟩))
  rw [← hQ, Exit.fwd_ret]
  go_ret2
  exact ⟨rfl, (Below.refl _ _).alloc (Nat.le_refl _) _⟩

set_option maxHeartbeats 400000 in
theorem put_no (r : Int) (w : World) (hm : mayB r = false) :
    Calls Try.prog 27 #[.int .i64 r] w fun e w' => e = .returned (.tuple #[.string ⟨#[]⟩, .bool false]) ∧ Below w.heap.size w w' := by
  go_enter Try.func27, Try.ntmps27
  go_wp2
  refine wp_scope_fwd 2 ?_
  generalize hQ : Exit.fwd _ _ _ 2 = Q2
  go_wp2_with (first
    | (go_at_call 30; refine (isch_any _ _).mono ?_; rintro e w' ⟨rfl, rfl⟩))
  rw [← hQ, Exit.fwd_ret]
  go_ret2
  exact ⟨rfl, Below.refl _ _⟩

def putS (r : Int) : ByteArray := if mayB r then ⟨(putL r).toArray⟩ else ⟨#[]⟩
theorem put_any (r : Int) (w : World) :
    Calls Try.prog 27 #[.int .i64 r] w fun e w' => e = .returned (.tuple #[.string (putS r), .bool (mayB r)]) ∧ Below w.heap.size w w' := by
  by_cases hm : mayB r = true
  · have h0 : 0 ≤ r := by simp [mayB] at hm; omega
    have h1 : r ≤ 1114111 := by simp [mayB] at hm; omega
    unfold putS putL
    rw [hm, if_pos rfl]
    by_cases a : r < 128
    · rw [if_pos a]; exact put_1 r w h0 a
    · rw [if_neg a]
      by_cases b : r < 2048
      · rw [if_pos b]; exact put_2 r w hm (by omega) b
      · rw [if_neg b]
        by_cases c : r < 65536
        · rw [if_pos c]; exact put_3 r w hm (by omega) c
        · rw [if_neg c]; exact put_4 r w hm (by omega) h1
  · have hm : mayB r = false := by simpa using hm
    unfold putS
    rw [hm]
    exact put_no r w hm

end Go.Proofs.Ytmboonmefmobcaa
