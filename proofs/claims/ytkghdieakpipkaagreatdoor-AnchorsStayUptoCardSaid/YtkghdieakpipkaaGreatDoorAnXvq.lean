/-
  An event that came in by value: its sizes.
-/
import Derived.Test.YtkghdieakpipkaaGreatDoorAnV39
namespace Go.Proofs.YtkghdieakpipkaaGreatDoor
open Go.RowKit Go.ChangeShapes Go.WideShapes Go.Deep
set_option maxRecDepth 100000

theorem sized_event {H : Type} {ts : List TypeId} {ds : List (DataW H)} (h : (DataW.weightsEach Tryz.prog ts ds).all (· ≤ reachBytes) = true) {j : Nat} {x : Ev}
    (ht : ts[j]? = some 31) (hd : ds[j]? = some (dE x)) (hw : (Lit.int .i64 x.k).wf = true) : okE x := by
  have hmem : ∀ n, n ∈ (dE x : DataW H).weights Tryz.prog 31 → n ≤ reachBytes := by
    intro n hn
    exact of_decide_eq_true (List.all_eq_true.1 h _ (DataW.weights_mem_each ht hd _ hn))
  have hw' : (dE x : DataW H).weights Tryz.prog 31 = [x.t.data.toList.length, x.v.data.toList.length] := by
    simp [dE, DataW.weights, DataW.weightsEach, Tryz.underlying31]
  rw [hw'] at hmem
  have h1 := hmem x.t.data.toList.length (by simp)
  have h2 := hmem x.v.data.toList.length (by simp)
  simp [reachBytes] at h1 h2
  exact okE_of hw ⟨by omega, by omega⟩
end Go.Proofs.YtkghdieakpipkaaGreatDoor
