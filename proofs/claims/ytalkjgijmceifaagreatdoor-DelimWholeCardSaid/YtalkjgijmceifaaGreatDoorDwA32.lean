/-
  delim: a new machine.
-/
import Derived.Test.YtalkjgijmceifaaGreatDoorDwA31
import Derived.Lib.JoinLaws
namespace Go.Proofs.YtalkjgijmceifaaGreatDoor
open Go.RowKit Go.Maps
set_option maxRecDepth 100000
set_option linter.unusedSimpArgs false
set_option linter.unusedVariables false
set_option linter.unusedSectionVars false
set_option linter.unusedSectionVars false
variable [Tab] [Fo]

/-- A machine that has read nothing. -/
def draw (w : World) (base m : Nat) : Prop := ∃ cv g, DmAt w base m dm0 cv g
theorem draw.below {w w' : World} {base m : Nat} (h : draw w base m) (hb : Below w.heap.size w w') : draw w' base m := by
  obtain ⟨cv, g, h⟩ := h
  exact ⟨cv, g, h.below hb⟩
set_option maxHeartbeats 4000000 in
theorem dnew_any (w : World) (hfl : Fo.lim ≤ w.heap.size) : Calls Tryz.prog 17 #[] w fun e w' => ∃ m, e = .returned (.pointer (some ⟨m, 0, none⟩)) ∧ draw w' w.heap.size m ∧ Below w.heap.size w w' := by
  have al : Below w.heap.size w (w.alloc (.cells (madeCells #[.int .u8 0] 48) 5)) := (Below.refl _ _).alloc (Nat.le_refl _) _
  have hR : (w.alloc (.cells (madeCells #[.int .u8 0] 48) 5)).ownsRow w.heap.size 5 1 (.slice (some ⟨w.heap.size, 0, none⟩) 0 48) 0 [] := by
    refine ⟨rfl, .inr ⟨w.heap.size, 48, madeCells #[.int .u8 0] 48, rfl, Nat.le_refl _, ?_, by decide, by decide, by kernel_rfl, rfl⟩⟩
    exact Blk.new w 5 _
  have hmk : ∀ kl kc, (Instr.makeSlice 22 (.int kl 0) (.int kc 48)).run Tryz.prog w = .ok (.slice (some ⟨w.heap.size, 0, none⟩) 0 48) (w.alloc (.cells (madeCells #[.int .u8 0] 48) 5)) := fun kl kc => Go.run_make_room (P := Tryz.prog) (w := w) 22 5 (.int .u8 0) 1 Tryz.underlying22 Tryz.infoU8 rfl kl kc 48 (by decide) (by decide)
  generalize hW : w.alloc (.cells (madeCells #[.int .u8 0] 48) 5) = W at *
  have hz : w.heap.size < W.heap.size := by rw [← hW]; simp
  have HA := Lib.hid (And.intro al (And.intro hR hz))
  clear al hR hz
  go_enter Tryz.func17, Tryz.ntmps17
  go_wp2
  go_ret
  obtain ⟨al, hR, hz⟩ := HA.out
  have al2 : Below W.heap.size W (W.alloc (.cells (dCells dm0 (.slice none 0 0) (kVal w.heap.size 0)) 56)) := (Below.refl _ _).alloc (Nat.le_refl _) _
  refine ⟨W.heap.size, rfl, ⟨.slice none 0 0, w.heap.size, ⟨Blk.new W 56 _, ORow.nil _ _ _, ?_, NF.nil, nf_new hfl, by omega, nf_new (by omega), Nat.le_trans (by omega : Fo.lim ≤ W.heap.size) al2.size⟩⟩, al.trans (al2.mono (by omega))⟩
  exact row_tch (base := w.heap.size) (p := fun _ => False) hR (Tch.of_below al2) (fun _ _ h => h)
end Go.Proofs.YtalkjgijmceifaaGreatDoor
