/-
  paren: the machine as it lies; what reads it alone.
  paren: what is due.
-/
import Derived.Test.YtmimadkepflmlaaGreatDoorPaZ10
import Derived.Test.YtmimadkepflmlaaGreatDoorPaZ11
import Derived.Test.YtmimadkepflmlaaGreatDoorPaZ21
import Derived.Test.YtmimadkepflmlaaGreatDoorPaZ13
import Derived.IntWalk
namespace Go.Proofs.YtmimadkepflmlaaGreatDoor
open Go.RowKit Go.Maps
set_option maxRecDepth 100000
set_option linter.unusedSimpArgs false
set_option linter.unusedVariables false
set_option linter.unusedSectionVars false
variable [Tab] [Fo]

def pCells (M : Pm) (ov uv qp av : Value) : Array Value := #[.int .i64 M.wi, .int .i64 M.du, ov, uv, .int .i64 M.uk, .int .i64 M.un, qp, .string M.nm, .string M.at', av]
structure PmAt (w : World) (base m : Nat) (M : Pm) (uv qp av : Value) : Prop where
  ex : ∃ ov, Blk w m 75 (pCells M ov uv qp av) ∧ ORow w base 3 ov (M.op.map iV) ∧ NF ov
  bm : base ≤ m
  nf : ¬ Fo.F m
  lim : Fo.lim ≤ w.heap.size
/-- What turns the machine alone: its block, and the row of what is open. -/
def pmObj : Obj → Prop
  | .cells _ t _ => t = 75 ∨ t = 3
  | _ => False
def pmOnly : Obj → Prop
  | .cells _ t _ => t = 75
  | _ => False
theorem pm_of {o : Obj} (h : pmOnly o) : pmObj o := by cases o <;> simp only [pmOnly, pmObj] at h ⊢; exact .inl h
section
variable {w w' : World} {base m : Nat} {M : Pm} {uv qp av : Value}
theorem PmAt.lt (h : PmAt w base m M uv qp av) : m < w.heap.size := by obtain ⟨ov, hB, _⟩ := h.ex; exact hB.lt
theorem PmAt.tch {p : Obj → Prop} (h : PmAt w base m M uv qp av) (ht : Tch base p w w') (hp : ∀ cs t fr, t = 75 ∨ t = 3 → ¬ p (.cells cs t fr)) : PmAt w' base m M uv qp av := by
  obtain ⟨ov, hB, hR, hf⟩ := h.ex
  exact ⟨⟨ov, hB.tch ht (.inr (hp _ _ _ (.inl rfl))), row_tch hR ht (fun _ _ => hp _ _ _ (.inr rfl)), hf⟩, h.bm, h.nf, Nat.le_trans h.lim ht.size⟩
theorem PmAt.below (h : PmAt w base m M uv qp av) (hb : Below w.heap.size w w') : PmAt w' base m M uv qp av := h.tch (p := fun _ => False) (Tch.of_below hb) (fun _ _ _ _ => id)
theorem PmAt.touch (h : PmAt w base m M uv qp av) (i : Nat) (u : Value) : Tch base pmOnly w (w.setCell ⟨m, i, none⟩ u) := by
  obtain ⟨ov, hB, _⟩ := h.ex
  exact (Tch.refl _ _ _).set hB h.bm h.nf (show pmOnly (.cells _ _ _) from rfl) i u
/-- A store into a cell that is not that of what is open. -/
theorem PmAt.set (h : PmAt w base m M uv qp av) (i : Nat) (u : Value) {M' : Pm} {uv' qp' av' : Value} (hc : ∀ ov, (pCells M ov uv qp av).setIfInBounds i u = pCells M' ov uv' qp' av') (ho : M'.op = M.op) : PmAt (w.setCell ⟨m, i, none⟩ u) base m M' uv' qp' av' := by
  have ht := h.touch i u
  obtain ⟨ov, hB, hR, hf⟩ := h.ex
  refine ⟨⟨ov, by rw [← hc ov]; exact hB.set_ i u, ?_, hf⟩, h.bm, h.nf, Nat.le_trans h.lim ht.size⟩
  rw [ho]
  exact row_tch hR ht (fun _ _ => by simp only [pmOnly]; decide)
theorem PmAt.cells (h : PmAt w base m M uv qp av) : (∃ A c, w.cell? ⟨m, 2, none⟩ = some (.slice A M.op.length c)) ∧ w.cell? ⟨m, 0, none⟩ = some (.int .i64 M.wi) ∧ w.cell? ⟨m, 1, none⟩ = some (.int .i64 M.du) ∧ w.cell? ⟨m, 3, none⟩ = some uv ∧ w.cell? ⟨m, 4, none⟩ = some (.int .i64 M.uk) ∧ w.cell? ⟨m, 5, none⟩ = some (.int .i64 M.un) ∧ w.cell? ⟨m, 6, none⟩ = some qp ∧ w.cell? ⟨m, 7, none⟩ = some (.string M.nm) ∧ w.cell? ⟨m, 8, none⟩ = some (.string M.at') ∧ w.cell? ⟨m, 9, none⟩ = some av := by
  obtain ⟨ov, hB, hR, _⟩ := h.ex
  obtain ⟨A, c, rfl⟩ := hR.shape
  rw [List.length_map] at hB
  exact ⟨⟨A, c, hB.cell 2⟩, hB.cell 0, hB.cell 1, hB.cell 3, hB.cell 4, hB.cell 5, hB.cell 6, hB.cell 7, hB.cell 8, hB.cell 9⟩
theorem PmAt.frz (h : PmAt w base m M uv qp av) (i : Nat) : w.frozen? ⟨m, i, none⟩ = false := by obtain ⟨ov, hB, _⟩ := h.ex; exact hB.frozen i
end

theorem topI_at {w : World} {base m : Nat} {M : Pm} {uv qp av : Value} (h : PmAt w base m M uv qp av) (hne : M.op ≠ []) :
    ∃ g cap n, M.op.length = n + 1 ∧ w.cell? ⟨m, 2, none⟩ = some (.slice (some ⟨g, 0, none⟩) (n + 1) cap) ∧ w.cell? ⟨g, n, none⟩ = some (.int .i64 (topI M.op)) ∧ n + 1 ≤ cap ∧ cap ≤ 9223372036854775807 ∧ g < w.heap.size := by
  obtain ⟨ov, hB, hR, _⟩ := h.ex
  rcases hR.form with ⟨_, h0⟩ | ⟨g, cap, rfl, hg, hgl, hlc, hcm⟩
  · exact absurd (by simpa using h0) hne
  have hl : 0 < M.op.length := List.length_pos_iff.2 hne
  rw [List.length_map] at hlc hB hR
  obtain ⟨n, hn⟩ : ∃ n, M.op.length = n + 1 := ⟨M.op.length - 1, by omega⟩
  refine ⟨g, cap, n, hn, by rw [← hn]; exact hB.cell 2, ?_, by omega, by simpa [maxLen] using hcm, hgl⟩
  have h1 : w.ownsRow base 3 1 (.slice (some ⟨g, 0, none⟩) M.op.length cap) M.op.length (M.op.map iV) := by
    unfold ORow at hR; rw [List.length_map] at hR; exact hR
  rw [rowN_cell h1 (by omega)]
  obtain ⟨ys, y, hy⟩ : ∃ ys y, M.op = ys ++ [y] := ⟨_, _, (List.dropLast_concat_getLast hne).symm⟩
  rw [hy] at hn ⊢
  have hyn : ys.length = n := by simpa using hn
  subst hyn
  simp [topI, iV]

theorem inner_any (w : World) (base m : Nat) (M : Pm) (uv qp av : Value) (h : PmAt w base m M uv qp av) (hne : M.op ≠ []) :
    Calls Tryz.prog 171 #[.pointer (some ⟨m, 0, none⟩)] w fun e w' => e = .returned (.int .i64 (topI M.op)) ∧ ∃ n, w' = w.drewN n := by
  obtain ⟨g, cap, n, hn, c2, cg, h1, h2, h3⟩ := topI_at h hne
  have hml := h.lt
  generalize topI M.op = tb at *
  clear h hn hne
  go_enter Tryz.func171, Tryz.ntmps171
  go_wp2
  go_region
  go_wp2
  go_ret
  exact ⟨rfl, 1, rfl⟩
theorem PmAt.drewN {w : World} {base m : Nat} {M : Pm} {uv qp av : Value} (h : PmAt w base m M uv qp av) (n : Nat) : PmAt (w.drewN n) base m M uv qp av := ⟨h.ex, h.bm, h.nf, h.lim⟩
theorem endOf_any (k : Int) (w : World) : Calls Tryz.prog 180 #[.int .i64 k] w fun e w' => e = .returned (.int .i64 (endK k)) ∧ w' = w := by
  unfold endK
  by_cases h5 : k = 5
  · subst h5
    go_enter Tryz.func180, Tryz.ntmps180
    go_wp2
    go_ret
    exact ⟨rfl, rfl⟩
  · by_cases h7 : k = 7
    · subst h7
      go_enter Tryz.func180, Tryz.ntmps180
      go_wp2
      go_ret
      exact ⟨rfl, rfl⟩
    · have z5 : (k == 5) = false := by rw [beq_eq_false_iff_ne]; exact h5
      have z7 : (k == 7) = false := by rw [beq_eq_false_iff_ne]; exact h7
      rw [if_neg h5, if_neg h7]
      go_enter Tryz.func180, Tryz.ntmps180
      go_wp2
      go_ret
      exact ⟨rfl, rfl⟩
theorem isName_any (t : ByteArray) (w : World) (ht : t.size ≤ 140737488355328) : Calls Tryz.prog 181 #[.string t] w fun e w' => e = .returned (.bool (isNm t)) ∧ Below w.heap.size w w' := by
  have hC := cut_any t w ht
  unfold isNm
  cases hc : cutL t.data.toList with
  | none =>
    rw [cutEnd_none hc] at hC
    clear hc
    go_enter Tryz.func181, Tryz.ntmps181
    go_wp2_with fail
    refine hC.mono ?_
    rintro e w' ⟨rfl, hb⟩
    go_wp2
    go_ret
    exact ⟨rfl, hb⟩
  | some p =>
    obtain ⟨a, b⟩ := p
    rw [cutEnd_some hc] at hC
    clear hc
    go_enter Tryz.func181, Tryz.ntmps181
    go_wp2_with fail
    refine hC.mono ?_
    rintro e w' ⟨rfl, hb⟩
    go_wp2
    go_ret
    exact ⟨rfl, hb⟩
end Go.Proofs.YtmimadkepflmlaaGreatDoor
namespace Go.Proofs.YtmimadkepflmlaaGreatDoor
open Go.RowKit Go.Maps
set_option maxRecDepth 100000
set_option linter.unusedSimpArgs false
set_option linter.unusedVariables false
set_option linter.unusedSectionVars false
variable [Tab] [Fo]

theorem ib_f {a b : Int} (h : a ≠ b) : (a == b) = false := by rw [beq_eq_false_iff_ne]; exact h
theorem ib_n {a b : Int} (h : a ≠ b) : (a != b) = true := by rw [bne_iff_ne]; exact h
theorem i_dec (a b : Int) : (a == b) = decide (a = b) := by rw [Bool.eq_iff_iff]; simp

set_option maxHeartbeats 4000000 in
theorem anyDue_any (w : World) (base m : Nat) (M : Pm) (uv qp av : Value) (h : PmAt w base m M uv qp av) (hne : M.op ≠ []) :
    Calls Tryz.prog 177 #[.pointer (some ⟨m, 0, none⟩)] w fun e w' => e = .returned (.bool (anyP M)) ∧ ∃ n, w' = w.drewN n := by
  have hI := Lib.hid (inner_any w base m M uv qp av h hne)
  obtain ⟨_, _, hd, _⟩ := h.cells
  have hml := h.lt
  have hdn : ∀ n, (w.drewN n).cell? ⟨m, 1, none⟩ = some (.int .i64 M.du) := fun n => hd
  have hld : ∀ n, m < (w.drewN n).heap.size := fun n => hml
  unfold anyP
  generalize topI M.op = tb at *
  generalize M.du = du at *
  clear h hd hne
  by_cases h0 : tb = 0
  · subst h0
    rw [if_pos (.inl rfl)]
    have z := i_dec du 0
    generalize decide (du = 0) = D at *
    go_enter Tryz.func177, Tryz.ntmps177
    go_wp2_with fail
    refine hI.out.mono ?_
    rintro e w' ⟨rfl, n, rfl⟩
    have hd := hdn n
    have hl := hld n
    go_wp2
    go_ret
    exact ⟨rfl, n, rfl⟩
  · by_cases h5 : tb = 5
    · subst h5
      rw [if_pos (.inr rfl)]
      have z := i_dec du 0
      generalize decide (du = 0) = D at *
      clear h0
      go_enter Tryz.func177, Tryz.ntmps177
      go_wp2_with fail
      refine hI.out.mono ?_
      rintro e w' ⟨rfl, n, rfl⟩
      have hd := hdn n
      have hl := hld n
      go_wp2
      go_ret
      exact ⟨rfl, n, rfl⟩
    · rw [if_neg (by omega)]
      by_cases h7 : tb = 7
      · subst h7
        rw [if_pos rfl]
        have z := i_dec du 1
        generalize decide (du = 1) = D at *
        clear h0 h5
        go_enter Tryz.func177, Tryz.ntmps177
        go_wp2_with fail
        refine hI.out.mono ?_
        rintro e w' ⟨rfl, n, rfl⟩
        have hd := hdn n
        have hl := hld n
        go_wp2
        go_ret
        exact ⟨rfl, n, rfl⟩
      · rw [if_neg h7]
        have z0 := ib_f h0
        have z5 := ib_f h5
        have z7 := ib_f h7
        clear h0 h5 h7
        go_enter Tryz.func177, Tryz.ntmps177
        go_wp2_with fail
        refine hI.out.mono ?_
        rintro e w' ⟨rfl, n, rfl⟩
        go_wp2
        go_ret
        exact ⟨rfl, n, rfl⟩

set_option maxHeartbeats 4000000 in
theorem endDue_any (w : World) (base m : Nat) (M : Pm) (uv qp av : Value) (h : PmAt w base m M uv qp av) (hne : M.op ≠ []) :
    Calls Tryz.prog 175 #[.pointer (some ⟨m, 0, none⟩)] w fun e w' => e = .returned (.bool (endP M)) ∧ ∃ n, w' = w.drewN n := by
  have hI := Lib.hid (inner_any w base m M uv qp av h hne)
  obtain ⟨_, _, hd, _⟩ := h.cells
  have hml := h.lt
  unfold endP
  generalize topI M.op = tb at *
  generalize M.du = du at *
  clear h hne
  by_cases hdu : du = 0 ∨ du = 3 ∨ du = 6
  · have hr : decide ((du = 0 ∨ du = 3 ∨ du = 6) ∧ tb ≠ 0) = (tb != 0) := by
      rw [Bool.eq_iff_iff]; simp [hdu]
    rw [hr]
    clear hr
    rcases hdu with rfl | rfl | rfl
    all_goals
      go_enter Tryz.func175, Tryz.ntmps175
      go_wp2_with fail
      refine hI.out.mono ?_
      rintro e w' ⟨rfl, n, rfl⟩
      go_wp2
      go_ret
      exact ⟨rfl, n, rfl⟩
  · rw [decide_eq_false (fun hc => hdu hc.1)]
    have z0 := ib_f (a := du) (b := 0) (by omega)
    have z3 := ib_f (a := du) (b := 3) (by omega)
    have z6 := ib_f (a := du) (b := 6) (by omega)
    clear hdu
    go_enter Tryz.func175, Tryz.ntmps175
    go_wp2
    go_ret
    exact ⟨rfl, 0, rfl⟩

/-- The world that valueEnded leaves. -/
theorem valueEnded_any (w : World) (base m : Nat) (M : Pm) (uv qp av : Value) (h : PmAt w base m M uv qp av) (hne : M.op ≠ []) (hb : base ≤ w.heap.size) :
    Calls Tryz.prog 164 #[.pointer (some ⟨m, 0, none⟩)] w fun e w' => e = .returned (.tuple #[]) ∧ PmAt w' base m { M with du := veP M.op } uv qp av ∧ Tch base pmOnly w w' := by
  have h0 := h.set 1 (.int .i64 0) (M' := { M with du := 0 }) (fun ov => rfl) rfl
  have t0 := h.touch 1 (.int .i64 0)
  obtain ⟨_, _, hd, _⟩ := h.cells
  have fd := h.frz 1
  have hml := h.lt
  have hI := Lib.hid (inner_any _ base m { M with du := 0 } uv qp av h0 hne)
  have H0 := Lib.hid h0
  have T0 := Lib.hid t0
  unfold veP
  clear h
  by_cases hz : topI M.op = 0
  · rw [if_pos hz]
    have hI2 : Hid (Calls Tryz.prog 171 #[.pointer (some ⟨m, 0, none⟩)] (w.setCell ⟨m, 1, none⟩ (.int .i64 0)) fun e w' => e = .returned (.int .i64 0) ∧ ∃ n, w' = (w.setCell ⟨m, 1, none⟩ (.int .i64 0)).drewN n) := by
      have := hI.out
      simp only at this
      rw [hz] at this
      exact Lib.hid this
    clear hI hz h0 t0
    go_enter Tryz.func164, Tryz.ntmps164
    go_wp2_with fail
    refine hI2.out.mono ?_
    rintro e w' ⟨rfl, n, rfl⟩
    have h1 := H0.out.drewN n
    obtain ⟨_, _, hd1, _⟩ := h1.cells
    have fd1 := h1.frz 1
    have hl1 := h1.lt
    have h2 := h1.set 1 (.int .i64 7) (M' := { M with du := 7 }) (fun ov => rfl) rfl
    have HF := Lib.hid (And.intro h2 ((T0.out.drewN n).trans (h1.touch 1 (.int .i64 7))))
    clear h1 h2
    go_wp2
    go_end0
    exact ⟨rfl, HF.out.1, HF.out.2⟩
  · rw [if_neg hz]
    have z := ib_f hz
    have hI2 := hI.out
    simp only at hI2
    generalize topI M.op = tb at *
    have HI2 := Lib.hid hI2
    clear hI hI2 hz h0 t0
    go_enter Tryz.func164, Tryz.ntmps164
    go_wp2_with fail
    refine HI2.out.mono ?_
    rintro e w' ⟨rfl, n, rfl⟩
    go_wp2
    go_end0
    exact ⟨rfl, H0.out.drewN n, T0.out.drewN n⟩
end Go.Proofs.YtmimadkepflmlaaGreatDoor
