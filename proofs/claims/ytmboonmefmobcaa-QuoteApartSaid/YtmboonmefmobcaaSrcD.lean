/-
  New, Step and Whole: a Scan is a block of three cells; a step turns that block alone.
-/
import Derived.Test.YtmboonmefmobcaaSrcA
import Derived.Test.YtmboonmefmobcaaJump
namespace Go.Proofs.Ytmboonmefmobcaa
open Go.RowKit

/-- A Scan at block g: what is left, and the bounds of the next byte. -/
def ScanAt (w : World) (g : Nat) (l lo hi : Int) : Prop := Blk w g 53 #[.int .i64 l, .int .u8 lo, .int .u8 hi]

/-- What a step leaves. -/
def Stepped (w : World) (g : Nat) (l lo hi b : Int) (e : Ending) (w' : World) : Prop :=
  e = .returned (.bool (stOk l lo hi b)) ∧ w.grownBy w' (some g) ∧ (if stOk l lo hi b = true then ScanAt w' g (stL l b) (stLo l b) (stHi l b) else ScanAt w' g l lo hi)

theorem new_any (w : World) : Calls Try.prog 16 #[] w fun e w' => e = .returned (.pointer (some ⟨w.heap.size, 0, none⟩)) ∧ w' = w.alloc (.cells #[.int .i64 0, .int .u8 128, .int .u8 191] 53) := by
  go_enter Try.func16, Try.ntmps16
  go_wp2
  go_ret
  exact ⟨rfl, rfl⟩

theorem whole_any (w : World) (g : Nat) (l lo hi : Int) (hs : ScanAt w g l lo hi) :
    Calls Try.prog 18 #[.pointer (some ⟨g, 0, none⟩)] w fun e w' => e = .returned (.bool (decide (l = 0))) ∧ w = w' := by
  have hc : w.cell? ⟨g, 0, none⟩ = some (.int .i64 l) := hs.cell 0
  go_enter Try.func18, Try.ntmps18
  go_wp2
  go_ret
  refine ⟨ret_bool ?_, rfl⟩
  rw [Bool.eq_iff_iff]; simp

theorem stepped_no {w : World} {g : Nat} {l lo hi b : Int} {o : Obj} (hs : ScanAt w g l lo hi) (hk : stOk l lo hi b = false) : Stepped w g l lo hi b (.returned (.bool false)) (w.alloc o) := by
  refine ⟨by rw [hk], only_alloc (World.grownBy.refl _ _) _, ?_⟩
  rw [hk, if_neg (by decide)]
  exact Blk.alloc hs _
theorem stepped_yes {w : World} {g : Nat} {l lo hi b : Int} {l' lo' hi' : Int} {o : Obj} (hs : ScanAt w g l lo hi) (hk : stOk l lo hi b = true) (h1 : l' = stL l b) (h2 : lo' = stLo l b) (h3 : hi' = stHi l b) :
    Stepped w g l lo hi b (.returned (.bool true)) ((((w.setCell ⟨g, 0, none⟩ (.int .i64 l')).setCell ⟨g, 1, none⟩ (.int .u8 lo')).setCell ⟨g, 2, none⟩ (.int .u8 hi')).alloc o) := by
  subst h1 h2 h3
  have g1 := only_setCell (p := ⟨g, 0, none⟩) (World.grownBy.refl w (some g)) (.inl rfl) (.int .i64 (stL l b))
  have g2 := only_setCell (p := ⟨g, 1, none⟩) g1 (.inl rfl) (.int .u8 (stLo l b))
  have g3 := only_setCell (p := ⟨g, 2, none⟩) g2 (.inl rfl) (.int .u8 (stHi l b))
  have b1 := Blk.set_ hs 0 (.int .i64 (stL l b))
  have b2 := Blk.set_ b1 1 (.int .u8 (stLo l b))
  have b3 := Blk.set_ b2 2 (.int .u8 (stHi l b))
  refine ⟨by rw [hk], only_alloc g3 _, ?_⟩
  rw [hk, if_pos rfl]
  exact Blk.alloc b3 o
set_option maxHeartbeats 400000 in
theorem step_tail (w : World) (g : Nat) (l lo hi b : Int) (hs : ScanAt w g l lo hi) (hl : 0 < l) (hl3 : l ≤ 3) :
    Calls Try.prog 17 #[.pointer (some ⟨g, 0, none⟩), .int .u8 b] w (Stepped w g l lo hi b) := by
  have c0 : w.cell? ⟨g, 0, none⟩ = some (.int .i64 l) := hs.cell 0
  have c1 : w.cell? ⟨g, 1, none⟩ = some (.int .u8 lo) := hs.cell 1
  have c2 : w.cell? ⟨g, 2, none⟩ = some (.int .u8 hi) := hs.cell 2
  have f0 := hs.frozen 0
  have f1 := hs.frozen 1
  have f2 := hs.frozen 2
  have hlt := hs.lt
  go_enter Try.func17, Try.ntmps17
  go_wp2
  refine wp_scope_fwd 2 ?_
  generalize hQ : Exit.fwd _ _ _ 2 = Q2
  go_wp2
  go_step3
  show Q2 _ _ _
  rw [← hQ]
  refine Exit.fwd_goto 1 _ _ rfl ?_
  generalize hQ1 : Exit.fwd _ _ _ 1 = Q1
  go_wp2
  · rw [← hQ1, Exit.fwd_ret]
    go_ret
    have hk : stOk l lo hi b = false := by unfold stOk; rw [if_pos hl]; simp; omega
    exact stepped_no hs hk
  · go_step3
    show Q1 _ _ _
    rw [← hQ1]
    refine Exit.fwd_goto 0 _ _ rfl ?_
    generalize hQ0 : Exit.fwd _ _ _ 0 = Q0
    go_wp2
    rw [← hQ0, Exit.fwd_ret]
    go_ret
    have hk : stOk l lo hi b = true := by unfold stOk; rw [if_pos hl]; simp; omega
    exact stepped_yes hs hk (by unfold stL; rw [if_pos hl]) (by unfold stLo; rw [if_pos hl]) (by unfold stHi; rw [if_pos hl])
  · rw [← hQ1, Exit.fwd_ret]
    go_ret
    have hk : stOk l lo hi b = false := by unfold stOk; rw [if_pos hl]; simp; omega
    exact stepped_no hs hk

set_option maxHeartbeats 1000000 in
theorem step_lead (w : World) (g : Nat) (lo hi b : Int) (hs : ScanAt w g 0 lo hi) (hb0 : 0 ≤ b) (hb1 : b ≤ 255) :
    Calls Try.prog 17 #[.pointer (some ⟨g, 0, none⟩), .int .u8 b] w (Stepped w g 0 lo hi b) := by
  have c0 : w.cell? ⟨g, 0, none⟩ = some (.int .i64 0) := hs.cell 0
  have c1 : w.cell? ⟨g, 1, none⟩ = some (.int .u8 lo) := hs.cell 1
  have c2 : w.cell? ⟨g, 2, none⟩ = some (.int .u8 hi) := hs.cell 2
  have f0 := hs.frozen 0
  have f1 := hs.frozen 1
  have f2 := hs.frozen 2
  have hlt := hs.lt
  go_enter Try.func17, Try.ntmps17
  go_wp2
  refine wp_scope_fwd 2 ?_
  generalize hQ : Exit.fwd _ _ _ 2 = Q2
  go_wp2
  all_goals first
    | (rw [← hQ, Exit.fwd_ret]; go_ret; exact stepped_no hs (by simp [stOk]; omega))
    | skip
  all_goals
    go_step3
    show Q2 _ _ _
    rw [← hQ]
    refine Exit.fwd_goto 1 _ _ rfl ?_
    generalize hQ1 : Exit.fwd _ _ _ 1 = Q1
  all_goals go_wp2
  all_goals try (go_step3; go_wp2)
  all_goals try (go_step3; go_wp2)
  all_goals try (go_step3; go_wp2)
  all_goals (rw [← hQ1, Exit.fwd_ret]; go_ret)
  all_goals refine stepped_yes hs (by simp [stOk]; omega) ?_ ?_ ?_
  all_goals simp only [stL, stLo, stHi]
  all_goals clear hQ1 c0 c1 c2 f0 f1 f2 hs
  all_goals try simp only [beq_iff_eq, beq_eq_false_iff_ne] at *
  all_goals rw [if_neg (by omega)]
  all_goals repeat (first | rw [if_pos (by omega)] | rw [if_neg (by omega)])

theorem step_any (w : World) (g : Nat) (l lo hi b : Int) (hs : ScanAt w g l lo hi) (hl0 : 0 ≤ l) (hl3 : l ≤ 3) (hb0 : 0 ≤ b) (hb1 : b ≤ 255) :
    Calls Try.prog 17 #[.pointer (some ⟨g, 0, none⟩), .int .u8 b] w (Stepped w g l lo hi b) := by
  rcases Int.lt_or_eq_of_le hl0 with h | h
  · exact step_tail w g l lo hi b hs h hl3
  · subst h
    exact step_lead w g lo hi b hs hb0 hb1
end Go.Proofs.Ytmboonmefmobcaa
