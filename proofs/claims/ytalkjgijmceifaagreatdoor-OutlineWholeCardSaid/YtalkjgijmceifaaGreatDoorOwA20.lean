/-
  lines: a Line as it lies; Fail, Must, Over, Is, Expect, Blanks.
  lines: Expect, Blanks.
-/
import Derived.Test.YtalkjgijmceifaaGreatDoorOwA19
namespace Go.Proofs.YtalkjgijmceifaaGreatDoor
open Go.RowKit Go.Maps
set_option maxRecDepth 100000
set_option linter.unusedSimpArgs false
set_option linter.unusedVariables false
set_option linter.unusedSectionVars false
variable [Tab] [Fo]

/-- The Out of a Line, and the others that are asked of its events. -/
structure LO where
  o : Nat
  ot : Value
/-- A Line: its text, where it is read, the Out, the others. -/
def LAt (w : World) (L : Nat) (o : LO) (S : List UInt8) (a : Nat) : Prop := Blk w L 213 #[.string ⟨S.toArray⟩, .int .i64 (a : Int), .pointer (some ⟨o.o, 0, none⟩), o.ot]
theorem deq (a n : Nat) : ((a : Int) == (n : Int)) = decide (a = n) := by
  by_cases h : a = n
  · subst h; simp
  · rw [decide_eq_false h, beq_eq_false_iff_ne]; omega
theorem bsize (S : List UInt8) : (⟨S.toArray⟩ : ByteArray).size = S.length := by show S.toArray.size = _; simp
theorem fail_any (w : World) (L : Nat) (k : Int) : Calls Tryz.prog 170 #[.pointer (some ⟨L, 0, none⟩), .int .i64 k] w fun e w' => e = .panicked (failP k) ∧ w' = w := by
  go_enter Tryz.func170, Tryz.ntmps170
  go_wp2
  exact ⟨rfl, rfl, rfl⟩
def MustE (k : Int) (e : Ending) : Prop := (k = 0 ∧ e = .returned (.tuple #[])) ∨ (k ≠ 0 ∧ e = .panicked (failP k))
theorem must_any (w : World) (L : Nat) (k : Int) : Calls Tryz.prog 181 #[.pointer (some ⟨L, 0, none⟩), .int .i64 k] w fun e w' => MustE k e ∧ w' = w := by
  by_cases hk : k = 0
  · subst hk
    go_enter Tryz.func181, Tryz.ntmps181
    go_wp2
    go_end0
    exact ⟨.inl ⟨rfl, rfl⟩, rfl⟩
  · have HK := Lib.hid hk
    have e1 : (k == 0) = false := by rw [beq_eq_false_iff_ne]; exact hk
    have e2 : (k != 0) = true := by simp [bne, e1]
    clear hk
    go_enter Tryz.func181, Tryz.ntmps181
    go_wp2_with fail
    refine (fail_any _ _ _).mono ?_
    rintro e w' ⟨rfl, rfl⟩
    exact ⟨rfl, .inr ⟨HK.out, rfl⟩, rfl⟩
theorem over_any (w : World) (L : Nat) (o : LO) (S : List UInt8) (a : Nat) (h : LAt w L o S a) (hS : S.length ≤ 1000) (ha : a ≤ 1000) :
    Calls Tryz.prog 176 #[.pointer (some ⟨L, 0, none⟩)] w fun e w' => e = .returned (.bool (decide (a = S.length))) ∧ w' = w.drew := by
  have l0 : w.cell? ⟨L, 0, none⟩ = some (.string ⟨S.toArray⟩) := Blk.cell h 0
  have l1 : w.cell? ⟨L, 1, none⟩ = some (.int .i64 (a : Int)) := Blk.cell h 1
  have hlt := Blk.lt h
  have hz := bsize S
  clear h
  go_enter Tryz.func176, Tryz.ntmps176
  go_wp2
  go_region
  go_wp2
  go_ret
  exact ⟨by rw [← deq]; rfl, rfl⟩
/-- Whether the next byte is b. -/
def isB (S : List UInt8) (a : Nat) (b : UInt8) : Bool := decide (S[a]? = some b)
theorem is_any (w : World) (L : Nat) (o : LO) (S : List UInt8) (a : Nat) (b : UInt8) (h : LAt w L o S a) (hS : S.length ≤ 1000) (ha : a ≤ S.length) :
    Calls Tryz.prog 177 #[.pointer (some ⟨L, 0, none⟩), .int .u8 (b.toNat : Int)] w fun e w' => e = .returned (.bool (isB S a b)) ∧ ∃ n, w' = w.drewN n := by
  have l0 : w.cell? ⟨L, 0, none⟩ = some (.string ⟨S.toArray⟩) := Blk.cell h 0
  have l1 : w.cell? ⟨L, 1, none⟩ = some (.int .i64 (a : Int)) := Blk.cell h 1
  have hlt := Blk.lt h
  have hz := bsize S
  have hC := over_any w.drew L o S a (h.below (below_drew (Below.refl _ _)) h.lt) hS (by omega)
  clear h
  by_cases hov : a = S.length
  · rw [decide_eq_true hov] at hC
    have hr : isB S a b = false := by unfold isB; rw [List.getElem?_eq_none (by omega)]; rfl
    rw [hr]
    clear hr hz
    go_enter Tryz.func177, Tryz.ntmps177
    go_wp2
    refine region_g [] (S := (fun W => W.cell? ⟨L, 0, none⟩ = some (.string ⟨S.toArray⟩) ∧ W.cell? ⟨L, 1, none⟩ = some (.int .i64 (a : Int)))) (by kernel_rfl) ⟨l0, l1⟩ (fun hH => ?_)
    refine g_take (i := 0) (v := .pointer (some ⟨L, 0, none⟩)) (by rfl) (by kernel_rfl) (by kernel_rfl) (by kernel_rfl) (by kernel_rfl) (fun _ _ _ h => (by cases h.1)) (Or.inl ⟨by kernel_rfl, fun W hS => (by obtain ⟨s0, s1⟩ := hS; go_simp)⟩) hH ?_
    simp only [Act.put, List.setIfInBounds_toArray, List.set_cons_zero, List.set_cons_succ]
    refine g_one (i := 1) (by kernel_rfl) (by rfl) (fun K hK => ?_)
    go_simp
    refine hC.mono ?_
    rintro e w1 ⟨rfl, rfl⟩
    refine hK.out _ _ (fun _ => ⟨l0, l1⟩) (fun _ => ?_)
    clear hK K
    refine g_take (i := 2) (v := .bool false) (by rfl) (by kernel_rfl) (by kernel_rfl) (by kernel_rfl) (by kernel_rfl) (fun _ _ _ h => (by cases h.1)) (Or.inl ⟨by kernel_rfl, fun W hS => (by obtain ⟨s0, s1⟩ := hS; go_simp)⟩) hH ?_
    simp only [Act.put, List.setIfInBounds_toArray, List.set_cons_zero, List.set_cons_succ]
    refine g_take (i := 3) (v := .bool false) (by rfl) (by kernel_rfl) (by kernel_rfl) (by kernel_rfl) (by kernel_rfl) (fun _ _ _ h => (by cases h.1)) (Or.inl ⟨by kernel_rfl, fun W hS => (by obtain ⟨s0, s1⟩ := hS; go_simp)⟩) hH ?_
    simp only [Act.put, List.setIfInBounds_toArray, List.set_cons_zero, List.set_cons_succ]
    refine g_take (i := 4) (v := undef) (by rfl) (by kernel_rfl) (by kernel_rfl) (by kernel_rfl) (by kernel_rfl) (fun _ _ _ h => (by cases h.1)) (Or.inr ⟨by kernel_rfl, rfl⟩) hH ?_
    simp only [Act.put, List.setIfInBounds_toArray, List.set_cons_zero, List.set_cons_succ]
    refine g_take (i := 5) (v := undef) (by rfl) (by kernel_rfl) (by kernel_rfl) (by kernel_rfl) (by kernel_rfl) (fun _ _ _ h => (by cases h.1)) (Or.inr ⟨by kernel_rfl, rfl⟩) hH ?_
    simp only [Act.put, List.setIfInBounds_toArray, List.set_cons_zero, List.set_cons_succ]
    refine g_take (i := 6) (v := undef) (by rfl) (by kernel_rfl) (by kernel_rfl) (by kernel_rfl) (by kernel_rfl) (fun _ _ _ h => (by cases h.1)) (Or.inr ⟨by kernel_rfl, rfl⟩) hH ?_
    simp only [Act.put, List.setIfInBounds_toArray, List.set_cons_zero, List.set_cons_succ]
    refine g_take (i := 7) (v := undef) (by rfl) (by kernel_rfl) (by kernel_rfl) (by kernel_rfl) (by kernel_rfl) (fun _ _ _ h => (by cases h.1)) (Or.inr ⟨by kernel_rfl, rfl⟩) hH ?_
    simp only [Act.put, List.setIfInBounds_toArray, List.set_cons_zero, List.set_cons_succ]
    refine g_take (i := 8) (v := undef) (by rfl) (by kernel_rfl) (by kernel_rfl) (by kernel_rfl) (by kernel_rfl) (fun _ _ _ h => (by cases h.1)) (Or.inr ⟨by kernel_rfl, rfl⟩) hH ?_
    simp only [Act.put, List.setIfInBounds_toArray, List.set_cons_zero, List.set_cons_succ]
    refine g_take (i := 9) (v := undef) (by rfl) (by kernel_rfl) (by kernel_rfl) (by kernel_rfl) (by kernel_rfl) (fun _ _ _ h => (by cases h.1)) (Or.inr ⟨by kernel_rfl, rfl⟩) hH ?_
    simp only [Act.put, List.setIfInBounds_toArray, List.set_cons_zero, List.set_cons_succ]
    refine g_take (i := 10) (v := undef) (by rfl) (by kernel_rfl) (by kernel_rfl) (by kernel_rfl) (by kernel_rfl) (fun _ _ _ h => (by cases h.1)) (Or.inr ⟨by kernel_rfl, rfl⟩) hH ?_
    simp only [Act.put, List.setIfInBounds_toArray, List.set_cons_zero, List.set_cons_succ]
    refine g_take (i := 11) (v := undef) (by rfl) (by kernel_rfl) (by kernel_rfl) (by kernel_rfl) (by kernel_rfl) (fun _ _ _ h => (by cases h.1)) (Or.inr ⟨by kernel_rfl, rfl⟩) hH ?_
    simp only [Act.put, List.setIfInBounds_toArray, List.set_cons_zero, List.set_cons_succ]
    refine g_take (i := 12) (v := undef) (by rfl) (by kernel_rfl) (by kernel_rfl) (by kernel_rfl) (by kernel_rfl) (fun _ _ _ h => (by cases h.1)) (Or.inr ⟨by kernel_rfl, rfl⟩) hH ?_
    simp only [Act.put, List.setIfInBounds_toArray, List.set_cons_zero, List.set_cons_succ]
    refine g_take (i := 13) (v := undef) (by rfl) (by kernel_rfl) (by kernel_rfl) (by kernel_rfl) (by kernel_rfl) (fun _ _ _ h => (by cases h.1)) (Or.inr ⟨by kernel_rfl, rfl⟩) hH ?_
    simp only [Act.put, List.setIfInBounds_toArray, List.set_cons_zero, List.set_cons_succ]
    refine g_take (i := 14) (v := undef) (by rfl) (by kernel_rfl) (by kernel_rfl) (by kernel_rfl) (by kernel_rfl) (fun _ _ _ h => (by cases h.1)) (Or.inr ⟨by kernel_rfl, rfl⟩) hH ?_
    simp only [Act.put, List.setIfInBounds_toArray, List.set_cons_zero, List.set_cons_succ]
    refine g_one (i := 15) (by kernel_rfl) (by rfl) (fun K hK => ?_)
    go_simp
    refine hK.out _ _ (fun _ => ⟨l0, l1⟩) (fun _ => ?_)
    clear hK K
    refine g_one (i := 16) (by kernel_rfl) (by rfl) (fun K hK => ?_)
    go_simp
    refine hK.out _ _ (fun _ => ⟨l0, l1⟩) (fun _ => ?_)
    clear hK K
    refine g_done (by kernel_rfl) ⟨by first | rfl | trivial, ?_⟩ _
    go_wp2
    go_ret
    exact ⟨rfl, 2, rfl⟩
  · rw [decide_eq_false hov] at hC
    have hal : a < S.length := by omega
    have hr : isB S a b = ((S[a].toNat : Int) == (b.toNat : Int)) := by
      unfold isB
      rw [List.getElem?_eq_getElem hal, deq]
      congr 1
      rw [Option.some.injEq, UInt8.toNat_inj]
    rw [hr]
    clear hr hz
    go_enter Tryz.func177, Tryz.ntmps177
    go_wp2
    refine region_g [] (S := (fun W => W.cell? ⟨L, 0, none⟩ = some (.string ⟨S.toArray⟩) ∧ W.cell? ⟨L, 1, none⟩ = some (.int .i64 (a : Int)))) (by kernel_rfl) ⟨l0, l1⟩ (fun hH => ?_)
    refine g_take (i := 0) (v := .pointer (some ⟨L, 0, none⟩)) (by rfl) (by kernel_rfl) (by kernel_rfl) (by kernel_rfl) (by kernel_rfl) (fun _ _ _ h => (by cases h.1)) (Or.inl ⟨by kernel_rfl, fun W hS => (by obtain ⟨s0, s1⟩ := hS; go_simp)⟩) hH ?_
    simp only [Act.put, List.setIfInBounds_toArray, List.set_cons_zero, List.set_cons_succ]
    refine g_one (i := 1) (by kernel_rfl) (by rfl) (fun K hK => ?_)
    go_simp
    refine hC.mono ?_
    rintro e w1 ⟨rfl, rfl⟩
    refine hK.out _ _ (fun _ => ⟨l0, l1⟩) (fun _ => ?_)
    clear hK K
    refine g_take (i := 2) (v := .bool true) (by rfl) (by kernel_rfl) (by kernel_rfl) (by kernel_rfl) (by kernel_rfl) (fun _ _ _ h => (by cases h.1)) (Or.inl ⟨by kernel_rfl, fun W hS => (by obtain ⟨s0, s1⟩ := hS; go_simp)⟩) hH ?_
    simp only [Act.put, List.setIfInBounds_toArray, List.set_cons_zero, List.set_cons_succ]
    refine g_take (i := 3) (v := .bool true) (by rfl) (by kernel_rfl) (by kernel_rfl) (by kernel_rfl) (by kernel_rfl) (fun _ _ _ h => (by cases h.1)) (Or.inl ⟨by kernel_rfl, fun W hS => (by obtain ⟨s0, s1⟩ := hS; go_simp)⟩) hH ?_
    simp only [Act.put, List.setIfInBounds_toArray, List.set_cons_zero, List.set_cons_succ]
    refine g_take (i := 4) (v := .pointer (some ⟨L, 0, none⟩)) (by rfl) (by kernel_rfl) (by kernel_rfl) (by kernel_rfl) (by kernel_rfl) (fun _ _ _ h => (by cases h.1)) (Or.inl ⟨by kernel_rfl, fun W hS => (by obtain ⟨s0, s1⟩ := hS; go_simp)⟩) hH ?_
    simp only [Act.put, List.setIfInBounds_toArray, List.set_cons_zero, List.set_cons_succ]
    refine g_take (i := 5) (v := .pointer (some ⟨L, 0, none⟩)) (by rfl) (by kernel_rfl) (by kernel_rfl) (by kernel_rfl) (by kernel_rfl) (fun _ _ _ h => (by cases h.1)) (Or.inl ⟨by kernel_rfl, fun W hS => (by obtain ⟨s0, s1⟩ := hS; go_simp)⟩) hH ?_
    simp only [Act.put, List.setIfInBounds_toArray, List.set_cons_zero, List.set_cons_succ]
    refine g_take (i := 6) (v := .pointer (some ⟨L, 0, none⟩)) (by rfl) (by kernel_rfl) (by kernel_rfl) (by kernel_rfl) (by kernel_rfl) (fun _ _ _ h => (by cases h.1)) (Or.inl ⟨by kernel_rfl, fun W hS => (by obtain ⟨s0, s1⟩ := hS; go_simp)⟩) hH ?_
    simp only [Act.put, List.setIfInBounds_toArray, List.set_cons_zero, List.set_cons_succ]
    refine g_take (i := 7) (v := .string ⟨S.toArray⟩) (by rfl) (by kernel_rfl) (by kernel_rfl) (by kernel_rfl) (by kernel_rfl) (fun _ _ _ h => (by cases h.1)) (Or.inl ⟨by kernel_rfl, fun W hS => (by obtain ⟨s0, s1⟩ := hS; go_simp)⟩) hH ?_
    simp only [Act.put, List.setIfInBounds_toArray, List.set_cons_zero, List.set_cons_succ]
    refine g_take (i := 8) (v := .pointer (some ⟨L, 0, none⟩)) (by rfl) (by kernel_rfl) (by kernel_rfl) (by kernel_rfl) (by kernel_rfl) (fun _ _ _ h => (by cases h.1)) (Or.inl ⟨by kernel_rfl, fun W hS => (by obtain ⟨s0, s1⟩ := hS; go_simp)⟩) hH ?_
    simp only [Act.put, List.setIfInBounds_toArray, List.set_cons_zero, List.set_cons_succ]
    refine g_take (i := 9) (v := .pointer (some ⟨L, 0, none⟩)) (by rfl) (by kernel_rfl) (by kernel_rfl) (by kernel_rfl) (by kernel_rfl) (fun _ _ _ h => (by cases h.1)) (Or.inl ⟨by kernel_rfl, fun W hS => (by obtain ⟨s0, s1⟩ := hS; go_simp)⟩) hH ?_
    simp only [Act.put, List.setIfInBounds_toArray, List.set_cons_zero, List.set_cons_succ]
    refine g_take (i := 10) (v := .pointer (some ⟨L, 1, none⟩)) (by rfl) (by kernel_rfl) (by kernel_rfl) (by kernel_rfl) (by kernel_rfl) (fun _ _ _ h => (by cases h.1)) (Or.inl ⟨by kernel_rfl, fun W hS => (by obtain ⟨s0, s1⟩ := hS; go_simp)⟩) hH ?_
    simp only [Act.put, List.setIfInBounds_toArray, List.set_cons_zero, List.set_cons_succ]
    refine g_take (i := 11) (v := .int .i64 (a : Int)) (by rfl) (by kernel_rfl) (by kernel_rfl) (by kernel_rfl) (by kernel_rfl) (fun _ _ _ h => (by cases h.1)) (Or.inl ⟨by kernel_rfl, fun W hS => (by obtain ⟨s0, s1⟩ := hS; go_simp)⟩) hH ?_
    simp only [Act.put, List.setIfInBounds_toArray, List.set_cons_zero, List.set_cons_succ]
    refine g_take (i := 13) (v := .int .u8 (b.toNat : Int)) (by rfl) (by kernel_rfl) (by kernel_rfl) (by kernel_rfl) (by kernel_rfl) (fun _ _ _ h => (by cases h.1)) (Or.inl ⟨by kernel_rfl, fun W hS => (by obtain ⟨s0, s1⟩ := hS; go_simp)⟩) hH ?_
    simp only [Act.put, List.setIfInBounds_toArray, List.set_cons_zero, List.set_cons_succ]
    refine g_one (i := 12) (by kernel_rfl) (by rfl) (fun K hK => ?_)
    go_simp
    rw [show (({ data := S.toArray } : ByteArray)[a]'(by rw [bsize]; exact hal)) = S[a] from rfl]
    refine hK.out _ _ (fun _ => ⟨l0, l1⟩) (fun _ => ?_)
    clear hK K
    refine g_one (i := 14) (by kernel_rfl) (by rfl) (fun K hK => ?_)
    go_simp
    refine hK.out _ _ (fun _ => ⟨l0, l1⟩) (fun _ => ?_)
    clear hK K
    refine g_one (i := 15) (by kernel_rfl) (by rfl) (fun K hK => ?_)
    go_simp
    refine hK.out _ _ (fun _ => ⟨l0, l1⟩) (fun _ => ?_)
    clear hK K
    refine g_one (i := 16) (by kernel_rfl) (by rfl) (fun K hK => ?_)
    go_simp
    refine hK.out _ _ (fun _ => ⟨l0, l1⟩) (fun _ => ?_)
    clear hK K
    refine g_done (by kernel_rfl) ⟨by first | rfl | trivial, ?_⟩ _
    go_wp2
    go_ret
    exact ⟨rfl, 2, rfl⟩
end Go.Proofs.YtalkjgijmceifaaGreatDoor
namespace Go.Proofs.YtalkjgijmceifaaGreatDoor
open Go.RowKit Go.Maps
set_option maxRecDepth 100000
set_option linter.unusedSimpArgs false
set_option linter.unusedVariables false
set_option linter.unusedSectionVars false
variable [Tab] [Fo]

theorem isB_true {S : List UInt8} {a : Nat} {b : UInt8} (h : isB S a b = true) : a < S.length := by
  unfold isB at h
  have := of_decide_eq_true h
  exact (List.getElem?_eq_some_iff.1 this).1
theorem grown_drew (w : World) (n : Nat) (g : Option Nat) : w.grownBy (w.drewN n) g := ⟨rfl, rfl, rfl, Nat.le_refl _, fun _ _ _ => rfl⟩
theorem LAt.drew {w : World} {L : Nat} {o : LO} {S : List UInt8} {a : Nat} (h : LAt w L o S a) (n : Nat) : LAt (w.drewN n) L o S a := h
/-- Where the line is read turns. -/
theorem LAt.go {w : World} {L : Nat} {o : LO} {S : List UInt8} {a : Nat} (h : LAt w L o S a) (a' : Nat) : LAt (w.setCell ⟨L, 1, none⟩ (.int .i64 (a' : Int))) L o S a' := Blk.set_ h 1 (.int .i64 (a' : Int))
theorem grown_at {w w' : World} {L : Nat} (h : w.grownBy w' (some L)) (u : Value) : w.grownBy (w'.setCell ⟨L, 1, none⟩ u) (some L) := only_setCell h (.inl rfl) u
/-- What a call that only reads on leaves: it returns, or fails. -/
def LnP (w : World) (L : Nat) (o : LO) (S : List UInt8) (a a' : Nat) (w' : World) : Prop := a ≤ a' ∧ a' ≤ S.length ∧ LAt w' L o S a' ∧ w.grownBy w' (some L)
theorem meet_any (w : World) (L : Nat) (o : LO) (S : List UInt8) (a : Nat) (b : UInt8) (h : LAt w L o S a) (hS : S.length ≤ 1000) (ha : a ≤ S.length) :
    Calls Tryz.prog 201 #[.pointer (some ⟨L, 0, none⟩), .int .u8 (b.toNat : Int)] w fun e w' => ((isB S a b = true ∧ e = .returned (.tuple #[])) ∨ (isB S a b = false ∧ e = .panicked (failP 2))) ∧ ∃ n, w' = w.drewN n := by
  have hC := is_any w L o S a b h hS ha
  cases hb : isB S a b with
  | false =>
    rw [hb] at hC
    clear h hb
    go_enter Tryz.func201, Tryz.ntmps201
    go_wp2_with fail
    refine hC.mono ?_
    rintro e w1 ⟨rfl, n, rfl⟩
    go_wp2_with fail
    refine (fail_any _ _ _).mono ?_
    rintro e w' ⟨rfl, rfl⟩
    exact ⟨rfl, .inr ⟨by first | rfl | trivial, rfl⟩, n, rfl⟩
  | true =>
    rw [hb] at hC
    clear h hb
    go_enter Tryz.func201, Tryz.ntmps201
    go_wp2_with fail
    refine hC.mono ?_
    rintro e w1 ⟨rfl, n, rfl⟩
    go_wp2
    go_end0
    exact ⟨.inl ⟨by first | rfl | trivial, rfl⟩, n, rfl⟩
theorem expect_any (w : World) (L : Nat) (o : LO) (S : List UInt8) (a : Nat) (b : UInt8) (h : LAt w L o S a) (hS : S.length ≤ 1000) (ha : a ≤ S.length) :
    Calls Tryz.prog 193 #[.pointer (some ⟨L, 0, none⟩), .int .u8 (b.toNat : Int)] w fun e w' => (isB S a b = true ∧ e = .returned (.tuple #[]) ∧ LnP w L o S a (a + 1) w') ∨ (isB S a b = false ∧ e = .panicked (failP 2) ∧ LnP w L o S a a w') := by
  have HC := Lib.hid (meet_any w L o S a b h hS ha)
  have HH := Lib.hid h
  have l1 : w.cell? ⟨L, 1, none⟩ = some (.int .i64 (a : Int)) := Blk.cell h 1
  have f1 := Blk.frozen h 1
  have hlt := Blk.lt h
  obtain ⟨a1, ha1⟩ : ∃ a1 : Nat, (a : Int) + 1 = a1 := ⟨a + 1, rfl⟩
  have hn1 : a + 1 = a1 := by omega
  rw [hn1]
  have HN := Lib.hid hn1
  clear h hn1
  go_enter Tryz.func193, Tryz.ntmps193
  go_wp2_with fail
  refine HC.out.mono ?_
  rintro e w1 ⟨⟨hb, rfl⟩ | ⟨hb, rfl⟩, n, rfl⟩
  · have hal := isB_true hb
    have HB := Lib.hid hb
    have m1 : (w.drewN n).cell? ⟨L, 1, none⟩ = some (.int .i64 (a : Int)) := l1
    have g1 : (w.drewN n).frozen? ⟨L, 1, none⟩ = false := f1
    have hlt1 : L < (w.drewN n).heap.size := hlt
    have HF : Hid (LnP w L o S a a1 ((w.drewN n).setCell ⟨L, 1, none⟩ (.int .i64 (a1 : Int)))) := Lib.hid ⟨by have := HN.out; omega, by have := HN.out; omega, (HH.out.drew n).go a1, grown_at (grown_drew w n _) _⟩
    clear HH HN l1 f1 hlt HC hb
    generalize w.drewN n = w2 at *
    go_wp2
    go_end0
    exact .inl ⟨HB.out, rfl, HF.out⟩
  · exact ⟨rfl, .inr ⟨hb, rfl, Nat.le_refl _, ha, HH.out.drew n, grown_drew w n _⟩⟩
/-- Where a Line is read, out of the world. -/
def atOf (L : Nat) (w : World) : Nat := match w.cell? ⟨L, 1, none⟩ with | some (.int _ n) => n.toNat | _ => 0
theorem LAt.at_ {w : World} {L : Nat} {o : LO} {S : List UInt8} {a : Nat} (h : LAt w L o S a) : atOf L w = a := by
  unfold atOf
  rw [show w.cell? ⟨L, 1, none⟩ = some (.int .i64 (a : Int)) from Blk.cell h 1]
  simp
/-- Where the blanks end. -/
def blk (S : List UInt8) (a : Nat) : Nat := a + ((S.drop a).takeWhile (· == 32)).length
theorem le_blk (S : List UInt8) (a : Nat) : a ≤ blk S a := Nat.le_add_right _ _
theorem blk_stop {S : List UInt8} {a : Nat} (h : isB S a 32 = false) : blk S a = a := by
  unfold blk isB at *
  rcases Nat.lt_or_ge a S.length with hl | hl
  · rw [List.drop_eq_getElem_cons hl, List.takeWhile_cons_of_neg]
    · rfl
    · rw [List.getElem?_eq_getElem hl] at h
      simpa using h
  · rw [List.drop_of_length_le hl]; rfl
theorem blk_go {S : List UInt8} {a : Nat} (h : isB S a 32 = true) : blk S (a + 1) = blk S a := by
  have hl := isB_true h
  unfold blk isB at *
  rw [List.drop_eq_getElem_cons hl, List.takeWhile_cons_of_pos]
  · rw [List.length_cons]; omega
  · rw [List.getElem?_eq_getElem hl] at h
    simpa using h
theorem blanks_any (w : World) (L : Nat) (o : LO) (S : List UInt8) (a : Nat) (h : LAt w L o S a) (hS : S.length ≤ 1000) (ha : a ≤ S.length) :
    Calls Tryz.prog 175 #[.pointer (some ⟨L, 0, none⟩)] w fun e w' => e = .returned (.tuple #[]) ∧ LnP w L o S a (blk S a) w' := by
  have HI := Lib.hid (show LnP w L o S a a w from ⟨Nat.le_refl _, ha, h, World.grownBy.refl _ _⟩)
  clear h
  go_enter Tryz.func175, Tryz.ntmps175
  go_wp2
  go_loopw [] (fun wr => ∃ a', Hid (LnP w L o S a a' wr) ∧ Hid (blk S a' = blk S a)) (fun wr => S.length - atOf L wr)
  case atStart => exact ⟨a, HI, Lib.hid rfl⟩
  case round =>
    obtain ⟨a', HL, HE⟩ := hrel
    obtain ⟨h1, h2, h3, h4⟩ := HL.out
    have hC := is_any wr L o S a' 32 h3 hS h2
    have l1 : wr.cell? ⟨L, 1, none⟩ = some (.int .i64 (a' : Int)) := Blk.cell h3 1
    have f1 := Blk.frozen h3 1
    have hlt := Blk.lt h3
    cases hb : isB S a' 32 with
    | false =>
      rw [hb] at hC
      have HZ := Lib.hid ((blk_stop hb).symm.trans HE.out)
      clear hb h3 h4 HI
      go_wp2_with fail
      refine hC.mono ?_
      rintro e w1 ⟨rfl, n, rfl⟩
      go_wp2
      go_end0
      rw [← HZ.out]
      exact ⟨rfl, h1, h2, HL.out.2.2.1.drew n, HL.out.2.2.2.trans (grown_drew wr n _)⟩
    | true =>
      have hal := isB_true hb
      rw [hb] at hC
      obtain ⟨a1, ha1⟩ : ∃ a1 : Nat, (a' : Int) + 1 = a1 := ⟨a' + 1, rfl⟩
      have hn1 : a' + 1 = a1 := by omega
      have HN := Lib.hid hn1
      have HM := Lib.hid h3.at_
      have HE2 : Hid (blk S a1 = blk S a) := Lib.hid (by rw [← hn1, blk_go hb]; exact HE.out)
      clear hb h3 h4 HI hn1
      go_wp2_with fail
      refine hC.mono ?_
      rintro e w1 ⟨rfl, n, rfl⟩
      have m1 : (wr.drewN n).cell? ⟨L, 1, none⟩ = some (.int .i64 (a' : Int)) := l1
      have g1 : (wr.drewN n).frozen? ⟨L, 1, none⟩ = false := f1
      have hlt1 : L < (wr.drewN n).heap.size := hlt
      have HF := Lib.hid (show LnP w L o S a a1 ((wr.drewN n).setCell ⟨L, 1, none⟩ (.int .i64 (a1 : Int))) from ⟨by have := HN.out; omega, by have := HN.out; omega, (HL.out.2.2.1.drew n).go a1, grown_at (HL.out.2.2.2.trans (grown_drew wr n _)) _⟩)
      have HA := Lib.hid HF.out.2.2.1.at_
      clear l1 f1 hlt hC HL
      generalize wr.drewN n = w2 at *
      go_wp2
      go_roundw
      case rel => exact ⟨a1, HF, HE2⟩
      case measure => rw [HA.out, HM.out]; have := HN.out; omega
end Go.Proofs.YtalkjgijmceifaaGreatDoor
