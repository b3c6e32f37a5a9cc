/-
  Two Anchors and a reference that hold the same: what AnchorsStay turns.
-/
import Derived.Test.YtkghdieakpipkaaGreatDoorAnV40
namespace Go.Proofs.YtkghdieakpipkaaGreatDoor
open Go.RowKit Go.Maps
set_option maxRecDepth 100000
set_option linter.unusedSimpArgs false
set_option linter.unusedVariables false

structure Three (B : Nat) (w : World) (S T S2 : Nat → Prop) (a r b : Nat) (s : Am) : Prop where
  both : Both B w S T a r s
  copy : AIs B w S2 b s
  d1 : ∀ k, S2 k → ¬ S k
  d2 : ∀ k, S2 k → ¬ T k
section
variable {B : Nat} {w w1 w2 w' : World} {S T S2 S' T' : Nat → Prop} {a r b : Nat} {s s' : Am}
theorem Three.below (h : Three B w S T S2 a r b s) (hb : Below w.heap.size w w') : Three B w' S T S2 a r b s := ⟨h.both.below hb, h.copy.below hb, h.d1, h.d2⟩
/-- A deed of both, then of the second. -/
theorem Three.step (h : Three B w S T S2 a r b s) (h1 : BothPo B w S T a r s' w1) : ∃ S' T', Both B w1 S' T' a r s' ∧ AIs B w1 S2 b s ∧ Below B w w1 ∧
    ∀ w2, AnPo B w1 S2 b s' w2 → ∃ S3, Three B w2 S' T' S3 a r b s' ∧ Below B w w2 := by
  obtain ⟨S', T', hB, ht, hb, hn⟩ := h1
  have hc := h.copy.off ht (fun k hk hST => hST.elim (h.d1 k hk) (h.d2 k hk)) (fun k hk => hk.elim (h.both.prog.lo k) (h.both.lo k))
  have hd : ∀ k, S2 k → ¬ (S' k ∨ T' k) := by
    intro k hk hST
    rcases hn k hST with h5 | h5
    · exact h5.elim (h.d1 k hk) (h.d2 k hk)
    · have := h.copy.lies.lt k hk; omega
  refine ⟨S', T', hB, hc, hb, fun w2 hp => ?_⟩
  obtain ⟨S3, hA3, ht3, hb3, hn3⟩ := hp
  have hB2 : Both B w2 S' T' a r s' := hB.off ht3 (fun k hk h5 => hd k h5 (.inl hk)) (fun k hk h5 => hd k h5 (.inr hk)) h.copy.lo
  refine ⟨S3, ⟨hB2, hA3, ?_, ?_⟩, hb.trans hb3⟩
  · intro k hk h5
    rcases hn3 k hk with h6 | h6
    · exact hd k h6 (.inl h5)
    · have := hB.prog.lies.lt k h5; omega
  · intro k hk h5
    rcases hn3 k hk with h6 | h6
    · exact hd k h6 (.inr h5)
    · have := hB.ref.1 k h5; omega
theorem Three.deed_get (h : AIs B w S2 b s) (d : Dk) (hk : pick3 d.k = 2) (hA : AIs B w' S2 b (getM s d.nm.data.toList)) (ht : TS S2 anyO w w') (hb : Below B w w') : AnPo B w S2 b (deedM s d) w' := by
  refine ⟨S2, ?_, ht, hb, fun _ h => .inl h⟩
  unfold deedM
  rw [hk, if_neg (by decide), if_neg (by decide)]
  exact hA
/-- The event that is refused. -/
theorem Three.refused (h : Three B w S T S2 a r b s) (h1 : AnPo B w S a s w1) : ∃ S', AIs B w1 S' a s ∧ AIs B w1 S2 b s ∧ RAt w1 T r s ∧ (∀ k, S2 k → ¬ S' k) ∧ (∀ k, S2 k → ¬ T k) ∧ (∀ k, S' k → ¬ T k) ∧ Below B w w1 := by
  obtain ⟨S', hA, ht, hb, hn⟩ := h1
  refine ⟨S', hA, h.copy.off ht h.d1 h.both.prog.lo, h.both.ref.off ht (fun k hk h5 => h.both.apart k h5 hk), ?_, h.d2, ?_, hb⟩
  · intro k hk h5
    rcases hn k h5 with h6 | h6
    · exact h.d1 k hk h6
    · have := h.copy.lies.lt k hk; omega
  · intro k hk h5
    rcases hn k hk with h6 | h6
    · exact h.both.apart k h6 h5
    · have := h.both.ref.1 k h5; omega
theorem RAt.len (h : RAt w T r s) : ∃ A c, w.cell? ⟨r, 0, none⟩ = some (.slice A s.m.length c) ∧ c ≤ 9223372036854775807 ∧ s.m.length ≤ c := by
  obtain ⟨_, kv, K, hR, hK, _⟩ := h
  obtain ⟨A, c, rfl, hlc, hcm, _⟩ := hR.row.form
  have e : K.length = s.m.length := by rw [← hK]; simp
  refine ⟨A, c, ?_, by simpa [maxLen] using hcm, by omega⟩
  rw [← e]
  exact hR.blk.cell 0
theorem RAt.name (h : RAt w T r s) {j : Nat} (hj : j < s.m.length) : ∃ (b o c : Nat), w.cell? ⟨r, 0, none⟩ = some (.slice (some ⟨b, o, none⟩) s.m.length c) ∧ c ≤ 9223372036854775807 ∧ s.m.length ≤ c ∧ w.cell? ⟨b, o + j * 2, none⟩ = some (strV s.m[j].1) := by
  obtain ⟨_, kv, K, hR, hK, _⟩ := h
  obtain ⟨A, c, rfl, hlc, hcm, hr⟩ := hR.row.form
  have e : K.length = s.m.length := by rw [← hK]; simp
  obtain ⟨b, o, rfl, hc⟩ := hr (by omega)
  refine ⟨b, o, c, ?_, by simpa [maxLen] using hcm, by omega, ?_⟩
  · rw [← e]
    exact hR.blk.cell 0
  · have h1 := (hc j (by omega)).1
    have e2 : s.m[j].1 = K[j].nm := by
      have h5 : s.m[j]? = some K[j].ent := by rw [← hK, List.getElem?_map, List.getElem?_eq_getElem (by omega)]; rfl
      rw [List.getElem?_eq_getElem hj] at h5
      injection h5 with h5
      rw [h5]
      rfl
    rw [e2]
    exact h1
theorem name_small {s : Am} (hI : AInv s) {j : Nat} (hj : j < s.m.length) : s.m[j].1.length ≤ 200 := (ent_small (List.getElem_mem hj) hI.sz).1
/-- Get on both alike. -/
theorem gets_step {lv : Value} {l : List Ev} (hA : AIs B w S a s) (hC : AIs B w S2 b s) (hR : RAt w T r s') (d1 : ∀ k, S2 k → ¬ S k) (d2 : ∀ k, S2 k → ¬ T k) (d3 : ∀ k, S k → ¬ T k) (ht : TS S anyO w w1) (hr : ERow w1 w.heap.size lv l) :
    AIs B w1 S2 b s ∧ RAt w1 T r s' ∧ ∀ w2 s2, AIs B w1 S a s2 → TS S2 anyO w1 w2 → AIs B w2 S a s2 ∧ RAt w2 T r s' ∧ ERow w2 w.heap.size lv l := by
  have hR1 := hR.off ht (fun k hk h5 => d3 k h5 hk)
  refine ⟨hC.off ht d1 hA.lo, hR1, fun w2 s2 hA1 ht2 => ⟨hA1.off ht2 (fun k hk h5 => d1 k h5 hk) hC.lo, hR1.off ht2 (fun k hk h5 => d2 k h5 hk), row_ts hr ht2 (.inl fun g hg h5 => ?_)⟩⟩
  have q1 := (World.ownsRow.lt hr g hg).1
  have q2 := hC.lies.lt g h5
  omega
end
end Go.Proofs.YtkghdieakpipkaaGreatDoor
