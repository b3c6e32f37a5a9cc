/-
  The walks of SrcPuts, SrcPlaces and SrcRises.
-/
import Derived.Test.YtbebpodhkffonaaSrcI
namespace Go.Proofs.Ytbebpodhkffonaa
open Go.RowKit
set_option maxRecDepth 100000

set_option maxHeartbeats 400000 in
theorem walk_SrcPuts (r : Int) (_hr : (Lit.int .i64 r).wf = true) (w : World) :
    Calls Try.prog 5 #[.int .i64 r] w fun e w' => e = .returned (.bool true) ∧ Below w.heap.size w w' := by
  go_enter Try.func5, Try.ntmps5
  go_wp2_with fail
  refine (put_any r _).mono ?_
  rintro e w1 ⟨rfl, hb1⟩
  generalize hX : putS r = X
  generalize hM : mayB r = M
  have HX := Lib.hid hX
  have HM := Lib.hid hM
  clear hX hM
  go_wp2_with fail
  refine (rput_any r _).mono ?_
  rintro e w2 ⟨rfl, hb2⟩
  rw [HX.out, HM.out]
  go_wp2_with (first
    | (go_at_call 15; refine (lives_any _).mono ?_; rintro e w3 ⟨rfl, hb3⟩))
  go_ret
  exact ⟨rfl, (hb1.trans (hb2.mono hb1.size)).trans (hb3.mono (Nat.le_trans hb1.size hb2.size))⟩

/-- The reference's Place: the fold of its steps. -/
theorem rplace_bad (s : ByteArray) (off : Int) (w : World) (h : off < 0 ∨ (s.size : Int) < off) :
    Calls Try.prog 23 #[.string s, .int .i64 off] w fun e w' => e = .returned (.tuple #[.int .i64 0, .int .i64 0, .int .i64 1]) ∧ w = w' := by
  by_cases h0 : off < 0
  · go_enter Try.func23, Try.ntmps23
    go_wp2
    go_ret3
    exact ⟨rfl, rfl⟩
  · have h1 : (s.size : Int) < off := by omega
    have h2 : 0 ≤ off := by omega
    clear h h0
    go_enter Try.func23, Try.ntmps23
    go_wp2
    go_ret3
    exact ⟨rfl, rfl⟩

set_option maxHeartbeats 400000 in
theorem rplace_any (s : ByteArray) (n : Nat) (w : World) (hs : s.size ≤ 140737488355328) (hn : n ≤ s.size) :
    Calls Try.prog 23 #[.string s, .int .i64 n] w fun e w' => e = .returned (.tuple #[.int .i64 (plc (s.data.toList.take n)).1, .int .i64 (plc (s.data.toList.take n)).2, .int .i64 0]) ∧ w = w' := by
  have h0 : (0 : Int) ≤ (n : Int) := by omega
  have h1 : ¬ (s.size : Int) < (n : Int) := by omega
  have hd0 : decide ((n : Int) < 0) = false := by simp
  go_enter Try.func23, Try.ntmps23
  go_wp2
  go_loop [7, 8, 9] (fun a b i => ∃ k l c : Nat, k ≤ n ∧ i = .int .i64 k ∧ a = .int .i64 l ∧ b = .int .i64 c ∧ Hid (plc (s.data.toList.take k) = (l, c))) (fun _ _ i => n - (intOf i).toNat)
  case atStart => exact ⟨0, 1, 1, Nat.zero_le _, rfl, rfl, rfl, Lib.hid rfl⟩
  case round =>
    obtain ⟨k, l, c, hk, rfl, rfl, rfl, HP⟩ := hrel
    have hbd := plc_bd (s.data.toList.take k)
    have hlen : (s.data.toList.take k).length ≤ k := List.length_take_le _ _
    rw [HP.out] at hbd
    obtain ⟨b1, b2, b3, b4⟩ := hbd
    simp only at b1 b2 b3 b4
    by_cases hlt : k < n
    · have hle := byte_le s[k]
      have hps := plc_snoc (s.data.toList.take k) s[k]
      rw [← take_snoc s k (by omega), HP.out] at hps
      by_cases h10 : (s[k].toNat : Int) = 10
      · have hfin : plc (s.data.toList.take (k + 1)) = (l + 1, 1) := by rw [hps]; simp only [plcStep, bhL, bhC, if_pos h10]
        have HS := Lib.hid hfin
        have hb : ((s[k].toNat : Int) == 10) = true := beq_iff_eq.2 h10
        clear hps hfin h10
        go_wp2
        go_round
        case rel => exact ⟨k + 1, l + 1, 1, by omega, by go_num, by go_num, rfl, HS⟩
        case measure => simp [intOf]; omega
      · have hb : ((s[k].toNat : Int) == 10) = false := beq_eq_false_iff_ne.2 h10
        by_cases hc : 128 ≤ (s[k].toNat : Int) ∧ (s[k].toNat : Int) ≤ 191
        · have hfin : plc (s.data.toList.take (k + 1)) = (l, c) := by rw [hps]; simp only [plcStep, bhL, bhC, if_neg h10, if_pos hc]
          have HS := Lib.hid hfin
          obtain ⟨hc1, hc2⟩ := hc
          clear hps hfin h10
          go_wp2
          go_round
          case rel => exact ⟨k + 1, l, c, by omega, by go_num, rfl, rfl, HS⟩
          case measure => simp [intOf]; omega
        · have hfin : plc (s.data.toList.take (k + 1)) = (l, c + 1) := by rw [hps]; simp only [plcStep, bhL, bhC, if_neg h10, if_neg hc]
          have HS := Lib.hid hfin
          clear hps hfin h10
          rcases (show (s[k].toNat : Int) < 128 ∨ 192 ≤ (s[k].toNat : Int) from by omega) with h1 | h1
          all_goals
            clear hc
            go_wp2
            go_round
            case rel => exact ⟨k + 1, l, c + 1, by omega, by go_num, rfl, by go_num, HS⟩
            case measure => simp [intOf]; omega
    · have e : k = n := by omega
      subst e
      go_wp2
      go_ret3
      rw [HP.out]
      exact ⟨rfl, rfl⟩

set_option maxHeartbeats 400000 in
theorem walk_SrcPlaces (s : ByteArray) (hs : s.size ≤ 140737488355328) (off : Int) (_hr : (Lit.int .i64 off).wf = true) (w : World) :
    Calls Try.prog 8 #[.string s, .int .i64 off] w fun e w' => e = .returned (.bool true) ∧ Below w.heap.size w w' := by
  by_cases h : off < 0 ∨ (s.size : Int) < off
  · go_enter Try.func8, Try.ntmps8
    go_wp2_with fail
    refine (place_bad s off _ h).mono ?_
    rintro e w1 ⟨rfl, rfl⟩
    go_wp2_with fail
    refine (rplace_bad s off _ h).mono ?_
    rintro e w1 ⟨rfl, rfl⟩
    go_wp2_with (first
      | (go_at_call 15; refine (lives_any _).mono ?_; rintro e w3 ⟨rfl, hb3⟩))
    go_ret
    exact ⟨rfl, hb3⟩
  · obtain ⟨n, rfl⟩ := Int.eq_ofNat_of_zero_le (show 0 ≤ off by omega)
    have hn : n ≤ s.size := by omega
    go_enter Try.func8, Try.ntmps8
    go_wp2_with fail
    refine (place_any s n _ hs hn).mono ?_
    rintro e w1 ⟨rfl, rfl⟩
    generalize hX : plc (s.data.toList.take n) = X
    have HX := Lib.hid hX
    clear hX
    go_wp2_with fail
    refine (rplace_any s n _ hs hn).mono ?_
    rintro e w1 ⟨rfl, rfl⟩
    rw [HX.out]
    go_wp2_with (first
      | (go_at_call 15; refine (lives_any _).mono ?_; rintro e w3 ⟨rfl, hb3⟩))
    go_ret
    exact ⟨rfl, hb3⟩
end Go.Proofs.Ytbebpodhkffonaa
