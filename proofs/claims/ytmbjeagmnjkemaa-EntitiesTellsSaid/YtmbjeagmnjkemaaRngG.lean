/-
  A region that draws its order, by hand: several operations that may come up; what is free of the facts. No program is read here.
-/
import Derived.Test.YtmbjeagmnjkemaaRngL
namespace Go.Proofs.Ytmbjeagmnjkemaa
open Go Go.RowKit
set_option maxRecDepth 100000
set_option linter.unusedSectionVars false
variable [Fo]

section
variable {P : Program} {ops : Array Oper} {Q : Exit → Act → World → Prop} {md : Region.Mode} {S : World → Prop} {Es : List Nat}
/-- One of several operations comes up. -/
def GStep (P : Program) (md : Region.Mode) (ops : Array Oper) (Q : Exit → Act → World → Prop) (Es : List Nat) (S : World → Prop) (fuel : Nat) (listed : Array Bool) (a : Act) (w : World) (i : Nat) : Prop :=
  ∃ o, ops[i]? = some o ∧ ∀ K' : Act → World → Prop, Shut (∀ a w, (i ∉ Es → S w) → ((i ∉ Es → S w) → wpAnyG P md ops Q Es S fuel (listed.setIfInBounds i true) a w) → K' a w) → if Region.wanted o (yielded ops a.tmps) = true then Oper.wp P o a w K' Q else K' (a.put o.dst undef) w
theorem g_all {rs : List Nat} {fuel : Nat} {listed : Array Bool} {a : Act} {w : World} (hr : Region.ready md ops listed = rs) (hne : rs ≠ []) (h : ∀ i ∈ rs, GStep P md ops Q Es S fuel listed a w i) : wpAnyG P md ops Q Es S (fuel + 1) listed a w := by
  refine ⟨fun h0 => absurd (hr ▸ h0) hne, fun j hj => ?_⟩
  rw [hr] at hj
  obtain ⟨o, ho, h2⟩ := h j hj
  exact wpOp_step ho (fun K' hK => h2 K' (fun a w hS hW => hK a w ⟨hS, hW hS⟩))
end

section
variable {P : Program} {ops : Array Oper} {Q : Exit → Act → World → Prop} {md : Region.Mode} {S : World → Prop} {Es : List Nat}
theorem g_of_any : ∀ (fuel : Nat) (listed : Array Bool) (a : Act) (w : World), (∀ i, listed.getD i true = false → i ∈ Es) → wpAny P md ops Q fuel listed a w → wpAnyG P md ops Q Es S fuel listed a w
  | 0, _, _, _, _, h => h
  | fuel + 1, listed, a, w, hE, h => ⟨h.1, fun i hi => by
    have hiE := hE i (mem_ready.1 hi).1
    refine wpOp_mono (fun a' w' h' => ⟨fun hn => absurd hiE hn, g_of_any fuel _ a' w' (fun k hk => hE k ?_) h'⟩) (h.2 i hi)
    by_cases e : i = k
    · subst e; exact (mem_ready.1 hi).1
    · rw [getD_set_ne true e] at hk; exact hk⟩
theorem g_free {fuel : Nat} {listed : Array Bool} {a : Act} {w : World} (hE : (List.range listed.size).all (fun i => listed.getD i true || Es.contains i) = true) (h : wpAny P md ops Q fuel listed a w) : wpAnyG P md ops Q Es S fuel listed a w := by
  refine g_of_any fuel listed a w (fun i hi => ?_) h
  have hl : i < listed.size := by
    rcases Nat.lt_or_ge i listed.size with h | h
    · exact h
    · simp [Array.getElem?_eq_none h] at hi
  have := List.all_eq_true.1 hE i (List.mem_range.2 hl)
  rw [hi] at this
  simpa using this
end
end Go.Proofs.Ytmbjeagmnjkemaa
