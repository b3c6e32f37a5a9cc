/-
  The walk of EventsDepth.
-/
import Derived.Test.YtmnijjbhkbdojaaGreatDoorEvK
import Derived.Test.YtmnijjbhkbdojaaGreatDoorEvM
namespace Go.Proofs.YtmnijjbhkbdojaaGreatDoor
open Go.RowKit Go.Maps
set_option maxRecDepth 100000

theorem good_len {st : List Pt} (h : Good st) : 1 ≤ st.length ∧ st.length ≤ 7 := by
  obtain ⟨p, r, rfl⟩ := h.ne
  exact ⟨by simp, h.2⟩
set_option maxHeartbeats 4000000 in
theorem walk_EventsDepth (v : Value) (xs : List Ev) (hx : ∀ x ∈ xs, okE x) (hn : xs.length ≤ 4611686018427387904) (w : World) (hw : Nm.StdW w) (hv : ERead w v xs) :
    Calls Tryz.prog 7 #[v] w fun e w' => e = .returned (.bool true) ∧ Below w.heap.size w w' := by
  obtain ⟨A, c, rfl, _, _, hr⟩ := hv
  go_enter Tryz.func7, Tryz.ntmps7
  go_wp2_with (first
    | (go_at_call 8; refine (cnew_any _ w.heap.size (Nat.le_refl _)).mono ?_; rintro e w1 ⟨g, rfl, hg, hC1, hb1⟩))
  go_loopw [4, 5] (fun d i wr => ∃ (k : Nat) (st : List Pt), k ≤ xs.length ∧ i = .int .i64 k ∧ d = .int .i64 ((st.length : Int) - 1) ∧ CAt wr w.heap.size g st ∧ Hid (Good st) ∧ Hid (Below w.heap.size w wr)) (fun _ i _ => xs.length - (intOf i).toNat)
  case atStart => exact ⟨0, [topP], Nat.zero_le _, rfl, rfl, hC1, Lib.hid good_start, Lib.hid hb1⟩
  case round =>
    obtain ⟨k, st, hk, rfl, rfl, hC, HG, HB⟩ := hrel
    have hwr := hw.below HB.out
    by_cases hlt : k < xs.length ∧ k < 1000
    · obtain ⟨hlt, h1000⟩ := hlt
      obtain ⟨bb, oo, rfl, hc⟩ := hr (by omega)
      obtain ⟨h1, h2, h3⟩ := hc k hlt
      have hok := hx _ (List.getElem_mem hlt)
      have g1 := (HB.out.cell (cell_lt h1)).trans h1
      have g2 := (HB.out.cell (cell_lt h2)).trans h2
      have g3 := (HB.out.cell (cell_lt h3)).trans h3
      clear hc hr h1 h2 h3
      generalize xs[k] = x at *
      obtain ⟨_, _, hs, _⟩ := hok
      have hCs := stepV wr w.heap.size g st _ _ x rfl rfl hC HG.out hwr hs
      have HG2 := Lib.hid (good_step HG.out x)
      have hD := fun w' h => depth_any w' w.heap.size g (stepS st x) h HG2.out.2
      obtain ⟨a1, a2, a3, a4⟩ := depth_step HG.out x
      obtain ⟨b1, b2⟩ := good_len HG2.out
      obtain ⟨c1, c2⟩ := good_len HG.out
      have HST := Lib.hid (rfl : stepS st x = stepS st x)
      obtain ⟨n, hn⟩ : ∃ n : Nat, st.length = n := ⟨_, rfl⟩
      obtain ⟨m, hm⟩ : ∃ m : Nat, (stepS st x).length = m := ⟨_, rfl⟩
      rw [hm, hn] at a1 a2 a3
      rw [hm] at a4 b1 b2 hD
      rw [hn] at c1 c2 ⊢
      have HM := Lib.hid hm
      generalize stepS st x = st2 at *
      generalize stepE st x = E at *
      clear hm hn
      have hlti : (k : Int) < xs.length := by omega
      have hki : (k : Int) < 1000 := by omega
      have m1 : ¬ ((m : Int) - 1 < 0) := by omega
      have m2 : ¬ (6 < (m : Int) - 1) := by omega
      have m3 : ¬ ((n : Int) - 1 + 1 < (m : Int) - 1) := by omega
      have m4 : ¬ ((m : Int) - 1 < (n : Int) - 1 - 1) := by omega
      by_cases hE : E = 0
      · subst hE
        clear a3 a4
        go_wp2_with (first
          | (go_at_call 10; refine hCs.mono ?_; rintro e w3 ⟨rfl, hC3, hT3⟩)
          | (go_at_call 12; refine (hD _ hC3).mono ?_; rintro e w4 ⟨rfl, rfl⟩))
        go_roundw
        case rel => exact ⟨k + 1, st2, hlt, by go_num, by rw [HM.out], hC3, HG2, Lib.hid (HB.out.trans (hT3.below HB.out.size))⟩
        case measure => first | (simp [intOf]; done) | (simp [intOf]; omega)
      · have hmn := a3 hE
        subst hmn
        clear a1 a2 a3 m3 m4
        have n3 : ¬ ((m : Int) - 1 + 1 < (m : Int) - 1) := by omega
        have n4 : ¬ ((m : Int) - 1 < (m : Int) - 1 - 1) := by omega
        have e0 := ne_beq hE
        have e1 := ne_bne hE
        by_cases h5 : E = 5
        · have hm7 := a4 h5
          subst hm7
          subst h5
          clear a4 e0 e1 hE
          go_wp2_with (first
            | (go_at_call 10; refine hCs.mono ?_; rintro e w3 ⟨rfl, hC3, hT3⟩)
            | (go_at_call 12; refine (hD _ hC3).mono ?_; rintro e w4 ⟨rfl, rfl⟩))
          go_roundw
          case rel => exact ⟨k + 1, st2, hlt, by go_num, by rw [HM.out]; rfl, hC3, HG2, Lib.hid (HB.out.trans (hT3.below HB.out.size))⟩
          case measure => first | (simp [intOf]; done) | (simp [intOf]; omega)
        · have e5 := ne_beq h5
          have e6 := ne_bne h5
          clear a4 hE h5
          go_wp2_with (first
            | (go_at_call 10; refine hCs.mono ?_; rintro e w3 ⟨rfl, hC3, hT3⟩)
            | (go_at_call 12; refine (hD _ hC3).mono ?_; rintro e w4 ⟨rfl, rfl⟩))
          go_roundw
          case rel => exact ⟨k + 1, st2, hlt, by go_num, by rw [HM.out], hC3, HG2, Lib.hid (HB.out.trans (hT3.below HB.out.size))⟩
          case measure => first | (simp [intOf]; done) | (simp [intOf]; omega)
    · have hL := fun w' h => elives_any w' h
      by_cases hl2 : k < xs.length
      · have hki : ¬ (k : Int) < 1000 := by omega
        have hlti : (k : Int) < xs.length := by omega
        go_wp2_with (first
          | (go_at_call 14; refine (hL _ hwr).mono ?_; rintro e w3 ⟨rfl, hb3⟩))
        go_ret
        exact ⟨rfl, HB.out.trans (hb3.mono HB.out.size)⟩
      · have hlti : ¬ (k : Int) < xs.length := by omega
        go_wp2_with (first
          | (go_at_call 14; refine (hL _ hwr).mono ?_; rintro e w3 ⟨rfl, hb3⟩))
        go_ret
        exact ⟨rfl, HB.out.trans (hb3.mono HB.out.size)⟩
end Go.Proofs.YtmnijjbhkbdojaaGreatDoor
