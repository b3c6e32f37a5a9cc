/-
  The reference's Print (hexaplaref03): the same text, or refused.
-/
import Derived.Test.YtmboonmefmobcaaQuoteJ
import Derived.Test.YtmboonmefmobcaaSrcV
namespace Go.Proofs.Ytmboonmefmobcaa
open Go.RowKit Go.Maps
set_option maxRecDepth 100000

set_option maxHeartbeats 2000000 in
theorem rprint_any (s : ByteArray) (w : World) (hm : s.size ≤ 1099511627776) :
    Calls Try.prog 7 #[.string s] w fun e w' => e = PrintEnd s.data.toList ∧ Below w.heap.size w w' := by
  have hsz : s.data.toList.length = s.size := by simp
  by_cases hu : (runesL s.data.toList).isSome = true
  · by_cases ho : 48 < s.size
    · have hE : PrintEnd s.data.toList = .returned (.tuple #[.string ⟨#[]⟩, .int .i64 4]) := by
        unfold PrintEnd prText prErr; rw [if_pos hu, if_pos hu, if_pos (by omega), if_pos (by omega)]
      rw [hE]
      have HU := Lib.hid hu
      clear hE hu
      go_enter Try.func7, Try.ntmps7
      go_wp2_with (first
        | (go_at_call 12; refine (valid_any s _ hm).mono ?_; rintro e w1 ⟨rfl, hb1⟩; rw [HU.out]))
      go_ret2
      exact ⟨rfl, hb1⟩
    · have hE : PrintEnd s.data.toList = .returned (.tuple #[.string ⟨(34 :: (prAll s.data.toList ++ [34])).toArray⟩, .int .i64 0]) := by
        unfold PrintEnd prText prErr; rw [if_pos hu, if_pos hu, if_neg (by omega), if_neg (by omega)]; rfl
      rw [hE]
      have HU := Lib.hid hu
      clear hE hu
      go_enter Try.func7, Try.ntmps7
      go_wp2_with (first
        | (go_at_call 12; refine (valid_any s _ hm).mono ?_; rintro e w1 ⟨rfl, hb1⟩; rw [HU.out])
        | (at_builtin; refine wp_app1b rfl _ _ 30 rfl w.heap.size 5 (.int .u8 0) 1 Try.underlying30 Try.info5 rfl _ _ _ rfl (by exact ORow.nil _ _ _) rfl _ rfl (by simp [maxLen]) (by simp) hb1.size ?_; intro v0 w0 hown0 hb0))
      have hb01 := hb1.trans hb0
      clear hb0
      go_loopw [5, 6] (fun v i wr => ∃ (k : Nat), k ≤ s.size ∧ i = .int .i64 k ∧ ORow wr w.heap.size 5 v ((34 :: prAll (s.data.toList.take k)).map bV) ∧ Below w.heap.size w wr) (fun _ i _ => s.size - (intOf i).toNat)
      case atStart => exact ⟨0, Nat.zero_le _, rfl, by exact hown0, hb01⟩
      case round =>
        obtain ⟨k, hk, rfl, hown, hbel⟩ := hrel
        have hbs := hbel.size
        have hlen := (prAll_len (s.data.toList.take k)).2
        have htl : (s.data.toList.take k).length ≤ k := List.length_take_le _ _
        obtain ⟨A, cap, hv⟩ := hown.shape
        subst hv
        rw [List.length_map] at hown
        rw [List.length_map]
        by_cases hlt : k < s.size
        · have hle := byte_le s[k]
          have hx : (34 :: prAll (s.data.toList.take k)).length ≤ 1000 := by simp; omega
          have HT := Lib.hid (take_snoc s k hlt)
          have hstep : ∀ w2 v2 news, (prB s[k]).map bV = news → ORow w2 w.heap.size 5 v2 ((34 :: prAll (s.data.toList.take k)).map bV ++ news) → ORow w2 w.heap.size 5 v2 ((34 :: prAll (s.data.toList.take (k + 1))).map bV) := by
            intro w2 v2 news hn h
            rw [HT.out, prAll_snoc, ← List.cons_append, List.map_append, hn]
            exact h
          generalize hxs : (34 :: prAll (s.data.toList.take k)) = xs at *
          clear hxs hlen htl
          obtain ⟨bi, hbi⟩ : ∃ bi : Int, (s[k].toNat : Int) = bi := ⟨_, rfl⟩
          have h0 : 0 ≤ bi := by omega
          have h255 : bi ≤ 255 := by omega
          have HB := Lib.hid hbi
          clear hle
          by_cases c34 : bi = 34
          · have hp : (prB s[k]).map bV = [.int .u8 92, .int .u8 34] := by
              unfold prB; rw [if_pos (by omega)]
              first | rfl | (simp only [List.map_cons, List.map_nil, bV]; rw [hbi, c34]; rfl)
            have HP := Lib.hid hp
            have hval : (s[k].toNat : Int) = 34 := by omega
            clear hp hbi HB h0 h255
            clear c34
            go_wp2_with (first
              | (at_builtin; refine wp_appNb rfl _ _ 30 rfl w.heap.size 5 (.int .u8 0) 1 Try.underlying30 Try.info5 rfl _ _ _ 2 rfl (by exact hown) (by simp [Value.oneCell']) rfl _ rfl (by simp [maxLen]; omega) (by simp; omega) hbs ?_; intro v2 w2 hown2 hb2))
            have hrow := hstep _ _ _ HP.out hown2
            have hbel2 := hbel.trans hb2
            clear hown2 hb2
            go_wp2
            go_roundw
            case rel => exact ⟨k + 1, by omega, by go_num, hrow, hbel2⟩
            case measure => simp [intOf]; omega
          by_cases c92 : bi = 92
          · have hp : (prB s[k]).map bV = [.int .u8 92, .int .u8 92] := by
              unfold prB; rw [if_pos (by omega)]
              first | rfl | (simp only [List.map_cons, List.map_nil, bV]; rw [hbi, c92]; rfl)
            have HP := Lib.hid hp
            have hval : (s[k].toNat : Int) = 92 := by omega
            clear hp hbi HB h0 h255
            clear c92
            go_wp2_with (first
              | (at_builtin; refine wp_appNb rfl _ _ 30 rfl w.heap.size 5 (.int .u8 0) 1 Try.underlying30 Try.info5 rfl _ _ _ 2 rfl (by exact hown) (by simp [Value.oneCell']) rfl _ rfl (by simp [maxLen]; omega) (by simp; omega) hbs ?_; intro v2 w2 hown2 hb2))
            have hrow := hstep _ _ _ HP.out hown2
            have hbel2 := hbel.trans hb2
            clear hown2 hb2
            go_wp2
            go_roundw
            case rel => exact ⟨k + 1, by omega, by go_num, hrow, hbel2⟩
            case measure => simp [intOf]; omega
          by_cases c10 : bi = 10
          · have hp : (prB s[k]).map bV = [.int .u8 92, .int .u8 110] := by
              unfold prB; rw [if_neg (by omega), if_pos (by omega)]
              first | rfl | (simp only [List.map_cons, List.map_nil, bV]; rw [hbi, c10]; rfl)
            have HP := Lib.hid hp
            have hval : (s[k].toNat : Int) = 10 := by omega
            clear hp hbi HB h0 h255
            clear c10
            go_wp2_with (first
              | (at_builtin; refine wp_appNb rfl _ _ 30 rfl w.heap.size 5 (.int .u8 0) 1 Try.underlying30 Try.info5 rfl _ _ _ 2 rfl (by exact hown) (by simp [Value.oneCell']) rfl _ rfl (by simp [maxLen]; omega) (by simp; omega) hbs ?_; intro v2 w2 hown2 hb2))
            have hrow := hstep _ _ _ HP.out hown2
            have hbel2 := hbel.trans hb2
            clear hown2 hb2
            go_wp2
            go_roundw
            case rel => exact ⟨k + 1, by omega, by go_num, hrow, hbel2⟩
            case measure => simp [intOf]; omega
          by_cases c9 : bi = 9
          · have hp : (prB s[k]).map bV = [.int .u8 92, .int .u8 116] := by
              unfold prB; rw [if_neg (by omega), if_neg (by omega), if_pos (by omega)]
              first | rfl | (simp only [List.map_cons, List.map_nil, bV]; rw [hbi, c9]; rfl)
            have HP := Lib.hid hp
            have hval : (s[k].toNat : Int) = 9 := by omega
            clear hp hbi HB h0 h255
            clear c9
            go_wp2_with (first
              | (at_builtin; refine wp_appNb rfl _ _ 30 rfl w.heap.size 5 (.int .u8 0) 1 Try.underlying30 Try.info5 rfl _ _ _ 2 rfl (by exact hown) (by simp [Value.oneCell']) rfl _ rfl (by simp [maxLen]; omega) (by simp; omega) hbs ?_; intro v2 w2 hown2 hb2))
            have hrow := hstep _ _ _ HP.out hown2
            have hbel2 := hbel.trans hb2
            clear hown2 hb2
            go_wp2
            go_roundw
            case rel => exact ⟨k + 1, by omega, by go_num, hrow, hbel2⟩
            case measure => simp [intOf]; omega
          by_cases c13 : bi = 13
          · have hp : (prB s[k]).map bV = [.int .u8 92, .int .u8 114] := by
              unfold prB; rw [if_neg (by omega), if_neg (by omega), if_neg (by omega), if_pos (by omega)]
              first | rfl | (simp only [List.map_cons, List.map_nil, bV]; rw [hbi, c13]; rfl)
            have HP := Lib.hid hp
            have hval : (s[k].toNat : Int) = 13 := by omega
            clear hp hbi HB h0 h255
            clear c13
            go_wp2_with (first
              | (at_builtin; refine wp_appNb rfl _ _ 30 rfl w.heap.size 5 (.int .u8 0) 1 Try.underlying30 Try.info5 rfl _ _ _ 2 rfl (by exact hown) (by simp [Value.oneCell']) rfl _ rfl (by simp [maxLen]; omega) (by simp; omega) hbs ?_; intro v2 w2 hown2 hb2))
            have hrow := hstep _ _ _ HP.out hown2
            have hbel2 := hbel.trans hb2
            clear hown2 hb2
            go_wp2
            go_roundw
            case rel => exact ⟨k + 1, by omega, by go_num, hrow, hbel2⟩
            case measure => simp [intOf]; omega
          have n34 : (bi == 34) = false := beq_eq_false_iff_ne.2 c34
          have n92 : (bi == 92) = false := beq_eq_false_iff_ne.2 c92
          have n10 : (bi == 10) = false := beq_eq_false_iff_ne.2 c10
          have n9 : (bi == 9) = false := beq_eq_false_iff_ne.2 c9
          have n13 : (bi == 13) = false := beq_eq_false_iff_ne.2 c13
          by_cases c32 : bi < 32
          · have q0 : 0 ≤ bi / 16 := by omega
            have q1 : bi / 16 < 16 := by omega
            have q2 : 0 ≤ bi % 16 := by omega
            have q3 : bi % 16 < 16 := by omega
            have r0 := hexD_rg _ q0 q1
            have r1 := hexD_rg _ q2 q3
            have hp : (prB s[k]).map bV = [.int .u8 92, .int .u8 117, .int .u8 48, .int .u8 48, .int .u8 (hexD (bi / 16)), .int .u8 (hexD (bi % 16))] := by
              unfold prB; rw [if_neg (by omega), if_neg (by omega), if_neg (by omega), if_neg (by omega), if_pos (by omega)]
              rw [hbi]
              simp only [List.map_cons, List.map_nil]
              rw [bV_b8 _ r0.1 r0.2, bV_b8 _ r1.1 r1.2]
              rfl
            have HP := Lib.hid hp
            clear hp c34 c92 c10 c9 c13 r0 r1
            go_wp2_with fail
            have t1 : bi.tdiv 16 = bi / 16 := Int.tdiv_eq_ediv_of_nonneg h0
            have t2 : bi.tmod 16 = bi % 16 := Int.tmod_eq_emod_of_nonneg h0
            have t3 : IntKind.u8.wrap (bi / 16) = bi / 16 := IntWalk.u8_in _ (by omega)
            have t4 : IntKind.u8.wrap (bi % 16) = bi % 16 := IntWalk.u8_in _ (by omega)
            go_region_law ((refine step_appN (by rfl) (.tmp 63) (.tmp 70) 30 (by rfl) w.heap.size 5 (.int .u8 0) 1 Try.underlying30 Try.info5 (by rfl) _ _ _ 6 (by rfl) (by exact hown) (by simp [Value.oneCell']) (by rfl) _ (by rfl) (by simp [maxLen]; omega) (by simp; omega) (by omega) ?_; intro v2 w2 hown2 hb2))
            all_goals
              rw [hexAt _ q0 q1, hexAt _ q2 q3] at hown2
              have hrow := hstep _ _ _ HP.out hown2
              have hbel2 := hbel.trans hb2
              clear hown2 hb2
              go_wp2
              go_roundw
              case rel => exact ⟨k + 1, by omega, by go_num, hrow, hbel2⟩
              case measure => simp [intOf]; omega
          · have hp : (prB s[k]).map bV = [.int .u8 bi] := by
              unfold prB; rw [if_neg (by omega), if_neg (by omega), if_neg (by omega), if_neg (by omega), if_neg (by omega)]
              simp only [List.map_cons, List.map_nil, bV]
              rw [hbi]
            have HP := Lib.hid hp
            clear hp c34 c92 c10 c9 c13
            go_wp2_with (first
              | (at_builtin; refine wp_appNb rfl _ _ 30 rfl w.heap.size 5 (.int .u8 0) 1 Try.underlying30 Try.info5 rfl _ _ _ 1 rfl (by exact hown) (by simp [Value.oneCell']) rfl _ rfl (by simp [maxLen]; omega) (by simp; omega) hbs ?_; intro v2 w2 hown2 hb2))
            have hrow := hstep _ _ _ HP.out hown2
            have hbel2 := hbel.trans hb2
            clear hown2 hb2
            go_wp2
            go_roundw
            case rel => exact ⟨k + 1, by omega, by go_num, hrow, hbel2⟩
            case measure => simp [intOf]; omega
        · have hkn : k = s.size := by omega
          subst hkn
          have htk : s.data.toList.take s.size = s.data.toList := List.take_of_length_le (by omega)
          rw [htk] at hown hlen
          rw [htk]
          have hx : (34 :: prAll s.data.toList).length ≤ 1000 := by simp; omega
          go_wp2_with (first
            | (at_builtin; refine wp_appNb rfl _ _ 30 rfl w.heap.size 5 (.int .u8 0) 1 Try.underlying30 Try.info5 rfl _ _ _ 1 rfl (by exact hown) (by simp [Value.oneCell']) rfl _ rfl (by simp [maxLen] at hx ⊢; omega) (by simp at hx ⊢; omega) hbs ?_; intro v2 w2 hown2 hb2))
          have hstr := put_str (34 :: (prAll s.data.toList ++ [34])) (by simpa [bV] using hown2)
          first | rw [hstr] | skip
          go_wp2
          go_ret2
          exact ⟨rfl, hbel.trans hb2⟩
  · have hE : PrintEnd s.data.toList = .returned (.tuple #[.string ⟨#[]⟩, .int .i64 3]) := by
      unfold PrintEnd prText prErr; rw [if_neg hu, if_neg hu]
    have huf : (runesL s.data.toList).isSome = false := by simpa using hu
    rw [hE]
    have HU := Lib.hid huf
    clear hE hu huf
    go_enter Try.func7, Try.ntmps7
    go_wp2_with (first
      | (go_at_call 12; refine (valid_any s _ hm).mono ?_; rintro e w1 ⟨rfl, hb1⟩; rw [HU.out]))
    go_ret2
    exact ⟨rfl, hb1⟩
end Go.Proofs.Ytmboonmefmobcaa
