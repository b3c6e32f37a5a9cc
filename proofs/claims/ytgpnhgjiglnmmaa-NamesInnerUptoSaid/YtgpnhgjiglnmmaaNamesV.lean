/-
  The walk of NamesScopes.
-/
import Derived.Test.YtgpnhgjiglnmmaaNamesT
namespace Go.Proofs.Ytgpnhgjiglnmmaa
open Go.RowKit Go.Maps
set_option maxRecDepth 100000

structure Dd where
  k : Int
  p : ByteArray
  s : ByteArray
def okD (x : Dd) : Prop := -9223372036854775808 ≤ x.k ∧ x.k ≤ 9223372036854775807 ∧ x.p.size ≤ 1048576 ∧ x.s.size ≤ 1048576
/-- A slice of deeds that can be read. -/
def DRead (w : World) (v : Value) (xs : List Dd) : Prop :=
  ∃ A c, v = .slice A xs.length c ∧ (0 < xs.length → ∃ b o : Nat, A = some ⟨b, o, none⟩ ∧ ∀ j (h : j < xs.length),
    w.cell? ⟨b, o + j * 3, none⟩ = some (.int .i64 (xs[j]).k) ∧ w.cell? ⟨b, o + j * 3 + 1, none⟩ = some (.string (xs[j]).p) ∧ w.cell? ⟨b, o + j * 3 + 2, none⟩ = some (.string (xs[j]).s))

theorem do_len (k : Int) (p s : List UInt8) (st : St) : (doS k p s st).length ≤ st.length + 1 ∧ (refL (doS k p s st)).length ≤ (refL st).length + 1 := by
  unfold doS
  split
  · exact ⟨by simp, by rw [refL_open]; omega⟩
  · split
    · exact ⟨by rw [bind_len]; omega, refL_bind_len p s st⟩
    · split
      · have := refL_close_len st
        exact ⟨by cases st <;> simp [closeS]; omega, by omega⟩
      · omega

/-- New scopes of both. -/
theorem rnew {w : World} (base : Nat) (hb : base ≤ w.heap.size) : RAt (w.alloc (.cells #[.slice none 0 0, .int .i64 0] 35)) base w.heap.size [] :=
  ⟨none, 0, hb, Blk.new w _ _, World.ownsRow_nil _ _ _ _⟩

set_option maxHeartbeats 4000000 in
theorem walk_NamesScopes (v : Value) (xs : List Dd) (hx : ∀ x ∈ xs, okD x) (hl : xs.length ≤ 1048576) (w : World) (hd : DRead w v xs) :
    Calls Try.prog 6 #[v] w fun e w' => e = .returned (.bool true) ∧ Below w.heap.size w w' := by
  obtain ⟨A, c, rfl, hr⟩ := hd
  go_enter Try.func6, Try.ntmps6
  go_wp2_with (first
    | (go_at_call 18; refine (snew_any _ w.heap.size (Nat.le_refl _)).mono ?_; rintro e w1 ⟨rfl, hs1, hb1⟩))
  have hr1 := rnew (w := w1) w.heap.size hb1.size
  have ha : Below w1.heap.size w1 (w1.alloc (.cells #[.slice none 0 0, .int .i64 0] 35)) := (Below.refl _ _).alloc (Nat.le_refl _) _
  have hs2 := hs1.below ha
  have hb2 := hb1.trans (ha.mono hb1.size)
  go_loopw [5] (fun i wr => ∃ (k : Nat) (st : St), k ≤ xs.length ∧ i = .int .i64 k ∧ SAt wr w.heap.size w.heap.size st ∧ RAt wr w.heap.size w1.heap.size st ∧ st.length ≤ k ∧ (refL st).length ≤ k ∧ Below w.heap.size w wr) (fun i _ => xs.length - (intOf i).toNat)
  case atStart => exact ⟨0, [], Nat.zero_le _, rfl, hs2, hr1, Nat.zero_le _, Nat.zero_le _, hb2⟩
  case round =>
    obtain ⟨k, st, hk, rfl, hs, hrr, hl1, hl2, hbel⟩ := hrel
    by_cases hlt : k < xs.length
    · obtain ⟨bb, oo, rfl, hc⟩ := hr (by omega)
      obtain ⟨h1, h2, h3⟩ := hc k hlt
      have hok := hx _ (List.getElem_mem hlt)
      have g1 := (hbel.cell (cell_lt h1)).trans h1
      have g2 := (hbel.cell (cell_lt h2)).trans h2
      have g3 := (hbel.cell (cell_lt h3)).trans h3
      clear hc hr
      generalize xs[k] = x at *
      obtain ⟨q1, q2, q3, q4⟩ := hok
      obtain ⟨z1, z2⟩ := do_len (pickI x.k) x.p.data.toList x.s.data.toList st
      go_wp2_with (first
        | (go_at_call 19; refine (does_any _ w.heap.size w.heap.size w1.heap.size st x.k x.p x.s hs hrr q1 q2 q3 q4 (by omega) (by omega)).mono ?_; rintro e w3 ⟨rfl, hs3, hr3, hb3⟩))
      go_roundw
      case rel => exact ⟨k + 1, _, hlt, by go_num, hs3, hr3, by omega, by omega, hbel.trans hb3⟩
      case measure => first | (simp [intOf]; done) | (simp [intOf]; omega)
    · go_wp2_with (first
        | (go_at_call 15; refine (lives_any _).mono ?_; rintro e w3 ⟨rfl, hb3⟩))
      go_ret
      exact ⟨rfl, hbel.trans (hb3.mono hbel.size)⟩
end Go.Proofs.Ytgpnhgjiglnmmaa
