/-
  The reference's Print (hexaplaref03): the same text, or refused.
  names: which bytes a name may have; Local, Space of the program.
  names: Space, Cut and Join of the program.
  names: Cut and Join of the program.
-/
import Derived.Test.YtonelabeflcplaaGreatDoorCrA06
import Derived.Test.YtonelabeflcplaaGreatDoorCrA07
import Derived.Test.YtonelabeflcplaaGreatDoorCrA01
import Derived.Test.YtonelabeflcplaaGreatDoorCrA05
import Derived.Test.YtonelabeflcplaaGreatDoorShelf
namespace Go.Proofs.YtonelabeflcplaaGreatDoor.Qt
open Go.RowKit Go.Maps
set_option maxRecDepth 100000

set_option maxHeartbeats 2000000 in
theorem rprint_any (s : ByteArray) (w : World) (hm : s.size ≤ 1099511627776) :
    Calls Tryz.prog 13 #[.string s] w fun e w' => e = PrintEnd s.data.toList ∧ Below w.heap.size w w' := by
  have hsz : s.data.toList.length = s.size := by simp
  by_cases hu : (runesL s.data.toList).isSome = true
  · by_cases ho : 48 < s.size
    · have hE : PrintEnd s.data.toList = .returned (.tuple #[.string ⟨#[]⟩, .int .i64 4]) := by
        unfold PrintEnd prText prErr; rw [if_pos hu, if_pos hu, if_pos (by omega), if_pos (by omega)]
      rw [hE]
      have HU := Lib.hid hu
      clear hE hu
      go_enter Tryz.func13, Tryz.ntmps13
      go_wp2_with (first
        | (go_at_call 29; refine (valid_any s _ hm).mono ?_; rintro e w1 ⟨rfl, hb1⟩; rw [HU.out]))
      go_ret2
      exact ⟨rfl, hb1⟩
    · have hE : PrintEnd s.data.toList = .returned (.tuple #[.string ⟨(34 :: (prAll s.data.toList ++ [34])).toArray⟩, .int .i64 0]) := by
        unfold PrintEnd prText prErr; rw [if_pos hu, if_pos hu, if_neg (by omega), if_neg (by omega)]; rfl
      rw [hE]
      have HU := Lib.hid hu
      clear hE hu
      go_enter Tryz.func13, Tryz.ntmps13
      go_wp2_with (first
        | (go_at_call 29; refine (valid_any s _ hm).mono ?_; rintro e w1 ⟨rfl, hb1⟩; rw [HU.out])
        | (at_builtin; refine wp_app1b rfl _ _ 51 rfl w.heap.size 5 (.int .u8 0) 1 Tryz.underlying51 Tryz.info5 rfl _ _ _ rfl (by exact ORow.nil _ _ _) rfl _ rfl (by simp [maxLen]) (by simp) hb1.size ?_; intro v0 w0 hown0 hb0))
      have hb01 := hb1.trans hb0
      clear hb0
      go_loopw [5, 6] (fun v i wr => ∃ (k : Nat), k ≤ s.size ∧ i = .int .i64 k ∧ ORow wr w.heap.size 5 v ((34 :: prAll (s.data.toList.take k)).map bV) ∧ Below w.heap.size w wr) (fun _ i _ => s.size - (intOf i).toNat)
      case atStart => exact ⟨0, Nat.zero_le _, rfl, by exact hown0, hb01⟩
      case round =>
        obtain ⟨k, hk, rfl, hown, hbel⟩ := hrel
        have hbs := hbel.size
        have hlen := (prAll_len (s.data.toList.take k)).2
        have htl : (s.data.toList.take k).length ≤ k := List.length_take_le _ _
        obtain ⟨A, cap, hv⟩ := hown.shape
        subst hv
        rw [List.length_map] at hown
        rw [List.length_map]
        by_cases hlt : k < s.size
        · have hle := byte_le s[k]
          have hx : (34 :: prAll (s.data.toList.take k)).length ≤ 1000 := by simp; omega
          have HT := Lib.hid (take_snoc s k hlt)
          have hstep : ∀ w2 v2 news, (prB s[k]).map bV = news → ORow w2 w.heap.size 5 v2 ((34 :: prAll (s.data.toList.take k)).map bV ++ news) → ORow w2 w.heap.size 5 v2 ((34 :: prAll (s.data.toList.take (k + 1))).map bV) := by
            intro w2 v2 news hn h
            rw [HT.out, prAll_snoc, ← List.cons_append, List.map_append, hn]
            exact h
          generalize hxs : (34 :: prAll (s.data.toList.take k)) = xs at *
          clear hxs hlen htl
          obtain ⟨bi, hbi⟩ : ∃ bi : Int, (s[k].toNat : Int) = bi := ⟨_, rfl⟩
          have h0 : 0 ≤ bi := by omega
          have h255 : bi ≤ 255 := by omega
          have HB := Lib.hid hbi
          clear hle
          by_cases c34 : bi = 34
          · have hp : (prB s[k]).map bV = [.int .u8 92, .int .u8 34] := by
              unfold prB; rw [if_pos (by omega)]
              first | rfl | (simp only [List.map_cons, List.map_nil, bV]; rw [hbi, c34]; rfl)
            have HP := Lib.hid hp
            have hval : (s[k].toNat : Int) = 34 := by omega
            clear hp hbi HB h0 h255
            clear c34
            go_wp2_with (first
              | (at_builtin; refine wp_appNb rfl _ _ 51 rfl w.heap.size 5 (.int .u8 0) 1 Tryz.underlying51 Tryz.info5 rfl _ _ _ 2 rfl (by exact hown) (by simp [Value.oneCell']) rfl _ rfl (by simp [maxLen]; omega) (by simp; omega) hbs ?_; intro v2 w2 hown2 hb2))
            have hrow := hstep _ _ _ HP.out hown2
            have hbel2 := hbel.trans hb2
            clear hown2 hb2
            go_wp2
            go_roundw
            case rel => exact ⟨k + 1, by omega, by go_num, hrow, hbel2⟩
            case measure => simp [intOf]; omega
          by_cases c92 : bi = 92
          · have hp : (prB s[k]).map bV = [.int .u8 92, .int .u8 92] := by
              unfold prB; rw [if_pos (by omega)]
              first | rfl | (simp only [List.map_cons, List.map_nil, bV]; rw [hbi, c92]; rfl)
            have HP := Lib.hid hp
            have hval : (s[k].toNat : Int) = 92 := by omega
            clear hp hbi HB h0 h255
            clear c92
            go_wp2_with (first
              | (at_builtin; refine wp_appNb rfl _ _ 51 rfl w.heap.size 5 (.int .u8 0) 1 Tryz.underlying51 Tryz.info5 rfl _ _ _ 2 rfl (by exact hown) (by simp [Value.oneCell']) rfl _ rfl (by simp [maxLen]; omega) (by simp; omega) hbs ?_; intro v2 w2 hown2 hb2))
            have hrow := hstep _ _ _ HP.out hown2
            have hbel2 := hbel.trans hb2
            clear hown2 hb2
            go_wp2
            go_roundw
            case rel => exact ⟨k + 1, by omega, by go_num, hrow, hbel2⟩
            case measure => simp [intOf]; omega
          by_cases c10 : bi = 10
          · have hp : (prB s[k]).map bV = [.int .u8 92, .int .u8 110] := by
              unfold prB; rw [if_neg (by omega), if_pos (by omega)]
              first | rfl | (simp only [List.map_cons, List.map_nil, bV]; rw [hbi, c10]; rfl)
            have HP := Lib.hid hp
            have hval : (s[k].toNat : Int) = 10 := by omega
            clear hp hbi HB h0 h255
            clear c10
            go_wp2_with (first
              | (at_builtin; refine wp_appNb rfl _ _ 51 rfl w.heap.size 5 (.int .u8 0) 1 Tryz.underlying51 Tryz.info5 rfl _ _ _ 2 rfl (by exact hown) (by simp [Value.oneCell']) rfl _ rfl (by simp [maxLen]; omega) (by simp; omega) hbs ?_; intro v2 w2 hown2 hb2))
            have hrow := hstep _ _ _ HP.out hown2
            have hbel2 := hbel.trans hb2
            clear hown2 hb2
            go_wp2
            go_roundw
            case rel => exact ⟨k + 1, by omega, by go_num, hrow, hbel2⟩
            case measure => simp [intOf]; omega
          by_cases c9 : bi = 9
          · have hp : (prB s[k]).map bV = [.int .u8 92, .int .u8 116] := by
              unfold prB; rw [if_neg (by omega), if_neg (by omega), if_pos (by omega)]
              first | rfl | (simp only [List.map_cons, List.map_nil, bV]; rw [hbi, c9]; rfl)
            have HP := Lib.hid hp
            have hval : (s[k].toNat : Int) = 9 := by omega
            clear hp hbi HB h0 h255
            clear c9
            go_wp2_with (first
              | (at_builtin; refine wp_appNb rfl _ _ 51 rfl w.heap.size 5 (.int .u8 0) 1 Tryz.underlying51 Tryz.info5 rfl _ _ _ 2 rfl (by exact hown) (by simp [Value.oneCell']) rfl _ rfl (by simp [maxLen]; omega) (by simp; omega) hbs ?_; intro v2 w2 hown2 hb2))
            have hrow := hstep _ _ _ HP.out hown2
            have hbel2 := hbel.trans hb2
            clear hown2 hb2
            go_wp2
            go_roundw
            case rel => exact ⟨k + 1, by omega, by go_num, hrow, hbel2⟩
            case measure => simp [intOf]; omega
          by_cases c13 : bi = 13
          · have hp : (prB s[k]).map bV = [.int .u8 92, .int .u8 114] := by
              unfold prB; rw [if_neg (by omega), if_neg (by omega), if_neg (by omega), if_pos (by omega)]
              first | rfl | (simp only [List.map_cons, List.map_nil, bV]; rw [hbi, c13]; rfl)
            have HP := Lib.hid hp
            have hval : (s[k].toNat : Int) = 13 := by omega
            clear hp hbi HB h0 h255
            clear c13
            go_wp2_with (first
              | (at_builtin; refine wp_appNb rfl _ _ 51 rfl w.heap.size 5 (.int .u8 0) 1 Tryz.underlying51 Tryz.info5 rfl _ _ _ 2 rfl (by exact hown) (by simp [Value.oneCell']) rfl _ rfl (by simp [maxLen]; omega) (by simp; omega) hbs ?_; intro v2 w2 hown2 hb2))
            have hrow := hstep _ _ _ HP.out hown2
            have hbel2 := hbel.trans hb2
            clear hown2 hb2
            go_wp2
            go_roundw
            case rel => exact ⟨k + 1, by omega, by go_num, hrow, hbel2⟩
            case measure => simp [intOf]; omega
          have n34 : (bi == 34) = false := beq_eq_false_iff_ne.2 c34
          have n92 : (bi == 92) = false := beq_eq_false_iff_ne.2 c92
          have n10 : (bi == 10) = false := beq_eq_false_iff_ne.2 c10
          have n9 : (bi == 9) = false := beq_eq_false_iff_ne.2 c9
          have n13 : (bi == 13) = false := beq_eq_false_iff_ne.2 c13
          by_cases c32 : bi < 32
          · have q0 : 0 ≤ bi / 16 := by omega
            have q1 : bi / 16 < 16 := by omega
            have q2 : 0 ≤ bi % 16 := by omega
            have q3 : bi % 16 < 16 := by omega
            have r0 := hexD_rg _ q0 q1
            have r1 := hexD_rg _ q2 q3
            have hp : (prB s[k]).map bV = [.int .u8 92, .int .u8 117, .int .u8 48, .int .u8 48, .int .u8 (hexD (bi / 16)), .int .u8 (hexD (bi % 16))] := by
              unfold prB; rw [if_neg (by omega), if_neg (by omega), if_neg (by omega), if_neg (by omega), if_pos (by omega)]
              rw [hbi]
              simp only [List.map_cons, List.map_nil]
              rw [bV_b8 _ r0.1 r0.2, bV_b8 _ r1.1 r1.2]
              rfl
            have HP := Lib.hid hp
            clear hp c34 c92 c10 c9 c13 r0 r1
            go_wp2_with fail
            have t1 : bi.tdiv 16 = bi / 16 := Int.tdiv_eq_ediv_of_nonneg h0
            have t2 : bi.tmod 16 = bi % 16 := Int.tmod_eq_emod_of_nonneg h0
            have t3 : IntKind.u8.wrap (bi / 16) = bi / 16 := IntWalk.u8_in _ (by omega)
            have t4 : IntKind.u8.wrap (bi % 16) = bi % 16 := IntWalk.u8_in _ (by omega)
            go_region_law ((refine step_appN (by rfl) (.tmp 63) (.tmp 70) 51 (by rfl) w.heap.size 5 (.int .u8 0) 1 Tryz.underlying51 Tryz.info5 (by rfl) _ _ _ 6 (by rfl) (by exact hown) (by simp [Value.oneCell']) (by rfl) _ (by rfl) (by simp [maxLen]; omega) (by simp; omega) (by omega) ?_; intro v2 w2 hown2 hb2))
            all_goals
              rw [hexAt _ q0 q1, hexAt _ q2 q3] at hown2
              have hrow := hstep _ _ _ HP.out hown2
              have hbel2 := hbel.trans hb2
              clear hown2 hb2
              go_wp2
              go_roundw
              case rel => exact ⟨k + 1, by omega, by go_num, hrow, hbel2⟩
              case measure => simp [intOf]; omega
          · have hp : (prB s[k]).map bV = [.int .u8 bi] := by
              unfold prB; rw [if_neg (by omega), if_neg (by omega), if_neg (by omega), if_neg (by omega), if_neg (by omega)]
              simp only [List.map_cons, List.map_nil, bV]
              rw [hbi]
            have HP := Lib.hid hp
            clear hp c34 c92 c10 c9 c13
            go_wp2_with (first
              | (at_builtin; refine wp_appNb rfl _ _ 51 rfl w.heap.size 5 (.int .u8 0) 1 Tryz.underlying51 Tryz.info5 rfl _ _ _ 1 rfl (by exact hown) (by simp [Value.oneCell']) rfl _ rfl (by simp [maxLen]; omega) (by simp; omega) hbs ?_; intro v2 w2 hown2 hb2))
            have hrow := hstep _ _ _ HP.out hown2
            have hbel2 := hbel.trans hb2
            clear hown2 hb2
            go_wp2
            go_roundw
            case rel => exact ⟨k + 1, by omega, by go_num, hrow, hbel2⟩
            case measure => simp [intOf]; omega
        · have hkn : k = s.size := by omega
          subst hkn
          have htk : s.data.toList.take s.size = s.data.toList := List.take_of_length_le (by omega)
          rw [htk] at hown hlen
          rw [htk]
          have hx : (34 :: prAll s.data.toList).length ≤ 1000 := by simp; omega
          go_wp2_with (first
            | (at_builtin; refine wp_appNb rfl _ _ 51 rfl w.heap.size 5 (.int .u8 0) 1 Tryz.underlying51 Tryz.info5 rfl _ _ _ 1 rfl (by exact hown) (by simp [Value.oneCell']) rfl _ rfl (by simp [maxLen] at hx ⊢; omega) (by simp at hx ⊢; omega) hbs ?_; intro v2 w2 hown2 hb2))
          have hstr := put_str (34 :: (prAll s.data.toList ++ [34])) (by simpa [bV] using hown2)
          first | rw [hstr] | skip
          go_wp2
          go_ret2
          exact ⟨rfl, hbel.trans hb2⟩
  · have hE : PrintEnd s.data.toList = .returned (.tuple #[.string ⟨#[]⟩, .int .i64 3]) := by
      unfold PrintEnd prText prErr; rw [if_neg hu, if_neg hu]
    have huf : (runesL s.data.toList).isSome = false := by simpa using hu
    rw [hE]
    have HU := Lib.hid huf
    clear hE hu huf
    go_enter Tryz.func13, Tryz.ntmps13
    go_wp2_with (first
      | (go_at_call 29; refine (valid_any s _ hm).mono ?_; rintro e w1 ⟨rfl, hb1⟩; rw [HU.out]))
    go_ret2
    exact ⟨rfl, hb1⟩
end Go.Proofs.YtonelabeflcplaaGreatDoor.Qt
namespace Go.Proofs.YtonelabeflcplaaGreatDoor
open Go.RowKit Go.Maps
set_option maxRecDepth 100000

theorem begins_any (b : Int) (w : World) :
    Calls Tryz.prog 45 #[.int .u8 b] w fun e w' => e = .returned (.bool (firstB b)) ∧ w = w' := by
  go_enter Tryz.func45, Tryz.ntmps45
  go_wp2
  all_goals go_ret
  all_goals refine ⟨ret_bool ?_, rfl⟩
  all_goals simp only [firstB]
  all_goals (rw [Bool.eq_iff_iff]; simp; try omega)

theorem later_of_first {b : Int} (h : firstB b = true) : laterB b = true := by
  unfold firstB at h
  unfold laterB
  rw [decide_eq_true_iff] at h ⊢
  omega
theorem later_eq (b : Int) : laterB b = (firstB b || decide ((48 ≤ b ∧ b ≤ 57) ∨ b = 45 ∨ b = 46)) := by
  unfold firstB laterB
  rw [Bool.eq_iff_iff]
  simp
  omega

theorem inloc_any (b : Int) (w : World) :
    Calls Tryz.prog 46 #[.int .u8 b] w fun e w' => e = .returned (.bool (laterB b)) ∧ w = w' := by
  cases hf : firstB b
  all_goals have HF := Lib.hid hf
  all_goals clear hf
  all_goals
    go_enter Tryz.func46, Tryz.ntmps46
    go_wp2_with (go_at_call 45; refine (begins_any _ _).mono ?_; rintro e w' ⟨rfl, rfl⟩; rw [HF.out])
  all_goals go_ret
  all_goals refine ⟨ret_bool ?_, rfl⟩
  all_goals rw [later_eq]
  all_goals first
    | (rw [HF.out]; simp only [Bool.true_or]; done)
    | (rw [HF.out, Bool.eq_iff_iff]; simp; try omega)
    | decide

theorem inspace_any (b : Int) (w : World) :
    Calls Tryz.prog 139 #[.int .u8 b] w fun e w' => e = .returned (.bool (!badB b)) ∧ w = w' := by
  go_enter Tryz.func139, Tryz.ntmps139
  go_wp2
  all_goals try (go_step3; go_wp2)
  all_goals go_ret
  all_goals refine ⟨ret_bool ?_, rfl⟩
  all_goals simp only [beq_iff_eq, beq_eq_false_iff_ne] at *
  all_goals (rw [Bool.eq_iff_iff]; simp [badB]; try omega)

theorem local_le {l : List UInt8} (h : localL l = true) : 1 ≤ l.length ∧ l.length ≤ 16 ∧ l.all (fun d => laterB (d.toNat : Int)) = true := by
  have h1 := local_len h
  cases l with
  | nil => cases h
  | cons c t =>
    simp only [localL, Bool.and_eq_true, decide_eq_true_eq] at h
    refine ⟨h1.1, h1.2, ?_⟩
    rw [List.all_cons, later_of_first h.1.2, h.2]
    rfl
theorem local_eq (s : ByteArray) (h : 0 < s.size) (h16 : s.size ≤ 16) : localL s.data.toList = (firstB (s[0].toNat : Int) && s.data.toList.all (fun d => laterB (d.toNat : Int))) := by
  have hl : s.data.toList.length = s.size := by simp
  have he := bytes_cons s h
  rw [he] at hl ⊢
  generalize List.drop 1 s.data.toList = t at *
  simp only [List.length_cons] at hl
  simp only [localL, List.all_cons]
  rw [decide_eq_true (show t.length < 16 by omega), Bool.true_and]
  cases hf : firstB (s[0].toNat : Int)
  · rfl
  · rw [later_of_first hf, Bool.true_and, Bool.true_and]
theorem local_long (s : ByteArray) (h : s.size = 0 ∨ 16 < s.size) : localL s.data.toList = false := by
  have hl : s.data.toList.length = s.size := by simp
  cases hb : localL s.data.toList with
  | false => rfl
  | true => have := local_len hb; omega
theorem all_snoc {p : UInt8 → Bool} {s : ByteArray} {k : Nat} (h : k < s.size) (ha : (s.data.toList.take k).all p = true) : (s.data.toList.take (k + 1)).all p = p s[k] := by
  rw [take_snoc s k h, List.all_append, ha]
  simp
theorem all_break {p : UInt8 → Bool} {s : ByteArray} {k : Nat} (h : k < s.size) (hp : p s[k] = false) : s.data.toList.all p = false := by
  cases ha : s.data.toList.all p with
  | false => rfl
  | true =>
    rw [List.all_eq_true] at ha
    have := ha s[k] (by simp [ByteArray.getElem_eq_getElem_data])
    rw [hp] at this
    cases this

theorem str_ne {s : ByteArray} (h : ¬ s.size = 0) : s.toList.isEmpty = false := by
  rw [Lib.toList_data]
  cases hl : s.data.toList with
  | nil => have : s.data.toList.length = s.size := by simp
           rw [hl] at this
           simp at this
           omega
  | cons c t => rfl
theorem str_ne2 {s : ByteArray} (h : ¬ s.size = 0) : ¬ s.toList = [] := by
  have := str_ne h
  intro hc
  rw [hc] at this
  cases this

set_option maxHeartbeats 1000000 in
theorem local_any (s : ByteArray) (w : World) (hm : s.size ≤ 140737488355328) :
    Calls Tryz.prog 25 #[.string s] w fun e w' => e = .returned (.bool (localL s.data.toList)) ∧ w = w' := by
  by_cases h0 : s.size = 0
  · rw [local_long s (.inl h0)]
    have hs : s = ⟨#[]⟩ := ByteArray.ext (Array.eq_empty_of_size_eq_zero h0)
    subst hs
    go_enter Tryz.func25, Tryz.ntmps25
    go_wp2
    go_ret
    exact ⟨rfl, rfl⟩
  have hn1 := str_ne h0
  have hn2 := str_ne2 h0
  by_cases h16 : 16 < s.size
  · rw [local_long s (.inr h16)]
    go_enter Tryz.func25, Tryz.ntmps25
    go_wp2
    go_ret
    exact ⟨rfl, rfl⟩
  have hp : 0 < s.size := by omega
  have hR := local_eq s hp (by omega)
  generalize hgl : localL s.data.toList = R at *
  have HR := Lib.hid hR
  clear hR hgl h0
  rcases Bool.eq_false_or_eq_true (firstB (s[0].toNat : Int)) with hf | hf
  case' inl => have HF := Lib.hid hf
  case' inr => have HF := Lib.hid hf
  all_goals clear hf
  case inr =>
    go_enter Tryz.func25, Tryz.ntmps25
    go_wp2_with (go_at_call 45; refine (begins_any _ _).mono ?_; rintro e w' ⟨rfl, rfl⟩; rw [HF.out])
    go_ret
    refine ⟨ret_bool ?_, rfl⟩
    rw [HR.out, HF.out]
    rfl
  case inl =>
    go_enter Tryz.func25, Tryz.ntmps25
    go_wp2_with (go_at_call 45; refine (begins_any _ _).mono ?_; rintro e w' ⟨rfl, rfl⟩; rw [HF.out])
    go_loop [19] (fun i => ∃ k : Nat, k ≤ s.size ∧ i = .int .i64 k ∧ Hid ((s.data.toList.take k).all (fun d => laterB (d.toNat : Int)) = true)) (fun i => s.size - (intOf i).toNat)
    case atStart => exact ⟨0, Nat.zero_le _, rfl, Lib.hid rfl⟩
    case round =>
      obtain ⟨k, hk, rfl, HK⟩ := hrel
      by_cases hlt : k < s.size
      · rcases Bool.eq_false_or_eq_true (laterB (s[k].toNat : Int)) with hl | hl
        case' inl => have HL := Lib.hid hl
        case' inr => have HL := Lib.hid hl
        all_goals clear hl
        case inr =>
          go_wp2_with (go_at_call 46; refine (inloc_any _ _).mono ?_; rintro e w' ⟨rfl, rfl⟩; rw [HL.out])
          go_ret
          refine ⟨ret_bool ?_, rfl⟩
          rw [HR.out, all_break hlt HL.out, Bool.and_false]
        case inl =>
          go_wp2_with (go_at_call 46; refine (inloc_any _ _).mono ?_; rintro e w' ⟨rfl, rfl⟩; rw [HL.out])
          go_round
          case rel => exact ⟨k + 1, by omega, by go_num, Lib.hid ((all_snoc hlt HK.out).trans HL.out)⟩
          case measure => simp [intOf]; omega
      · go_wp2
        go_ret
        refine ⟨ret_bool ?_, rfl⟩
        have hK := HK.out
        rw [List.take_of_length_le (by simp; omega)] at hK
        rw [HR.out, HF.out, hK]
        rfl
end Go.Proofs.YtonelabeflcplaaGreatDoor
namespace Go.Proofs.YtonelabeflcplaaGreatDoor
open Go.RowKit Go.Maps
set_option maxRecDepth 100000

theorem space_long (s : ByteArray) (h : s.size = 0 ∨ 48 < s.size) : spaceL s.data.toList = false := by
  have hl : s.data.toList.length = s.size := by simp
  cases hb : spaceL s.data.toList with
  | false => rfl
  | true => have := space_len hb; omega
theorem space_eq (s : ByteArray) (h : 0 < s.size) (h48 : s.size ≤ 48) : spaceL s.data.toList = ((runesL s.data.toList).isSome && s.data.toList.all (fun d => !badB (d.toNat : Int))) := by
  have hl : s.data.toList.length = s.size := by simp
  unfold spaceL
  rw [decide_eq_true (show 1 ≤ s.data.toList.length ∧ s.data.toList.length ≤ 48 by omega), Bool.and_true]

set_option maxHeartbeats 1000000 in
theorem space_any (s : ByteArray) (w : World) (hm : s.size ≤ 140737488355328) :
    Calls Tryz.prog 125 #[.string s] w fun e w' => e = .returned (.bool (spaceL s.data.toList)) ∧ Below w.heap.size w w' := by
  by_cases h0 : s.size = 0
  · rw [space_long s (.inl h0)]
    have hs : s = ⟨#[]⟩ := ByteArray.ext (Array.eq_empty_of_size_eq_zero h0)
    subst hs
    go_enter Tryz.func125, Tryz.ntmps125
    go_wp2
    go_ret
    exact ⟨rfl, Below.refl _ _⟩
  have hn1 := str_ne h0
  have hn2 := str_ne2 h0
  by_cases h48 : 48 < s.size
  · rw [space_long s (.inr h48)]
    go_enter Tryz.func125, Tryz.ntmps125
    go_wp2
    go_ret
    exact ⟨rfl, Below.refl _ _⟩
  have hR := space_eq s (by omega) (by omega)
  generalize hgl : spaceL s.data.toList = R at *
  have HR := Lib.hid hR
  clear hR hgl h0
  go_enter Tryz.func125, Tryz.ntmps125
  go_wp2_with (first
    | (go_at_call 83; refine (new_any _).mono ?_; rintro e w' ⟨rfl, rfl⟩))
  go_loopw [15] (fun i wr => ∃ (k : Nat) (l lo hi : Int), k ≤ s.size ∧ i = .int .i64 k ∧ ScanAt wr w.heap.size l lo hi ∧ 0 ≤ l ∧ l ≤ 3 ∧ Below w.heap.size w wr ∧ Hid (UtfAt s.data.toList k l lo hi) ∧ Hid ((s.data.toList.take k).all (fun d => !badB (d.toNat : Int)) = true)) (fun i _ => s.size - (intOf i).toNat)
  case atStart => exact ⟨0, 0, 128, 191, Nat.zero_le _, rfl, Blk.new w _ _, by decide, by decide, (Below.refl _ _).alloc (Nat.le_refl _) _, Lib.hid ⟨0, [], rfl⟩, Lib.hid rfl⟩
  case round =>
    obtain ⟨k, l, lo, hi, hk, rfl, hsc, h0, h3, hbel, HW, HK⟩ := hrel
    by_cases hlt : k < s.size
    · have hle := byte_le s[k]
      have HD := Lib.hid (drop_cons s k hlt)
      have hr := stL_range (b := s[k].toNat) h0 h3
      obtain ⟨hr0, hr3⟩ := hr
      rcases Bool.eq_false_or_eq_true (badB (s[k].toNat : Int)) with hb | hb
      case' inl => have HB := Lib.hid hb
      case' inr => have HB := Lib.hid hb
      all_goals clear hb
      case inl =>
        have HX := Lib.hid (all_break (p := fun d => !badB (d.toNat : Int)) hlt (by rw [HB.out]; rfl))
        go_wp2_with (first
          | (go_at_call 139; refine (inspace_any _ _).mono ?_; rintro e w' ⟨rfl, rfl⟩; rw [HB.out]))
        go_ret
        refine ⟨ret_bool ?_, hbel⟩
        rw [HR.out, HX.out, Bool.and_false]
      case inr =>
        have HX := Lib.hid (all_snoc (p := fun d => !badB (d.toNat : Int)) hlt HK.out)
        go_wp2_with (first
          | (go_at_call 139; refine (inspace_any _ _).mono ?_; rintro e w' ⟨rfl, rfl⟩; rw [HB.out]))
        refine (step_any _ _ _ _ _ _ hsc h0 h3 (by omega) hle).mono ?_
        rintro e w1 ⟨rfl, hg1, hs1⟩
        have hbel1 : Below w.heap.size w w1 := below_only hbel hg1 hbel.size (Nat.le_refl _)
        clear hg1 hsc hbel
        generalize hO : stOk l lo hi s[k].toNat = O at *
        have HO := Lib.hid hO
        clear hO
        cases O
        · have HE := Lib.hid (utf_bad HD.out HW.out HO.out)
          go_wp2
          go_ret
          refine ⟨ret_bool ?_, hbel1⟩
          rw [HR.out, HE.out, Bool.false_and]
        · rw [if_pos rfl] at hs1
          go_wp2
          go_roundw
          case rel => exact ⟨k + 1, _, _, _, by omega, by go_num, hs1, hr0, hr3, hbel1, Lib.hid (utf_step HD.out HW.out HO.out), Lib.hid (HX.out.trans (by rw [HB.out]; rfl))⟩
          case measure => simp [intOf]; omega
    · have hend := utf_end (by simp; omega) HW.out
      have HE := Lib.hid hend
      clear hend
      go_wp2_with (first
        | (go_at_call 85; refine (whole_any _ _ _ _ _ hsc).mono ?_; rintro e w' ⟨rfl, rfl⟩))
      go_ret
      refine ⟨ret_bool ?_, hbel⟩
      have hK := HK.out
      rw [List.take_of_length_le (by simp; omega)] at hK
      rw [HR.out, HE.out, hK, Bool.and_true]

theorem clone_any (s : ByteArray) (w : World) (hm : s.size ≤ 140737488355328) :
    Calls Tryz.prog 27 #[.string s] w fun e w' => e = .returned (.string s) ∧ Below w.heap.size w w' := by
  go_enter Tryz.func27, Tryz.ntmps27
  go_wp2_with (go_at_call 48; refine (Tryz.stringslite_Clone s w (by omega)).mono ?_; rintro e w' ⟨rfl, hb⟩)
  go_ret
  exact ⟨rfl, hb⟩
end Go.Proofs.YtonelabeflcplaaGreatDoor
namespace Go.Proofs.YtonelabeflcplaaGreatDoor
open Go.RowKit Go.Maps
set_option maxRecDepth 100000

/-- A text cut at its first closing brace. -/
def cutAt (l : List UInt8) : List UInt8 × List UInt8 × Bool :=
  match l.dropWhile noEnd with
  | [] => (l, [], false)
  | _ :: b => (l.takeWhile noEnd, b, true)

theorem noEnd_iff (c : UInt8) : noEnd c = !(c == 125) := by
  unfold noEnd
  rw [Bool.eq_iff_iff]
  simp
  constructor
  · intro h hc; subst hc; exact h rfl
  · intro h hc; exact h (UInt8.toNat_inj.1 (by rw [show (125 : UInt8).toNat = 125 from rfl]; omega))

theorem index_none {l : List UInt8} (h : l.dropWhile noEnd = []) : Lib.indexByte l 125 = -1 := by
  induction l with
  | nil => rfl
  | cons c t ih =>
    rw [List.dropWhile_cons] at h
    split at h
    · rename_i hc
      have hc' : (c == 125) = false := by rw [noEnd_iff] at hc; simpa using hc
      simp only [Lib.indexByte, hc', ih h]
      rfl
    · cases h
theorem index_some {l b : List UInt8} {c : UInt8} (h : l.dropWhile noEnd = c :: b) : Lib.indexByte l 125 = ((l.takeWhile noEnd).length : Int) := by
  induction l with
  | nil => cases h
  | cons d t ih =>
    rw [List.dropWhile_cons] at h
    rw [List.takeWhile_cons]
    split at h
    · rename_i hc
      have hc' : (d == 125) = false := by rw [noEnd_iff] at hc; simpa using hc
      have e := ih h
      simp only [Lib.indexByte, hc', e]
      rw [if_neg (by simp), if_neg (by simp), if_pos hc]
      simp
    · rename_i hc
      have hc' : (d == 125) = true := by rw [noEnd_iff] at hc; simpa using hc
      simp only [Lib.indexByte, hc']
      rw [if_pos trivial, if_neg hc]
      rfl
theorem parts_len {l b : List UInt8} {c : UInt8} (h : l.dropWhile noEnd = c :: b) : (l.takeWhile noEnd).length + 1 + b.length = l.length := by
  have := congrArg List.length (List.takeWhile_append_dropWhile (p := noEnd) (l := l))
  rw [h, List.length_append, List.length_cons] at this
  omega
theorem parts_eq {l b : List UInt8} {c : UInt8} (h : l.dropWhile noEnd = c :: b) : l = l.takeWhile noEnd ++ c :: b := by rw [← h]; exact List.takeWhile_append_dropWhile.symm
theorem parts_take {l b : List UInt8} {c : UInt8} (h : l.dropWhile noEnd = c :: b) : l.take (l.takeWhile noEnd).length = l.takeWhile noEnd := by
  have e := parts_eq h
  generalize l.takeWhile noEnd = a at *
  subst e
  simp
theorem parts_drop {l b : List UInt8} {c : UInt8} (h : l.dropWhile noEnd = c :: b) : l.drop ((l.takeWhile noEnd).length + 1) = b := by
  have e := parts_eq h
  generalize l.takeWhile noEnd = a at *
  subst e
  rw [List.drop_append]
  simp

theorem index_any (s : ByteArray) (w : World) :
    Calls Tryz.prog 82 #[.string s, .string ⟨#[125]⟩] w fun e w' => e = .returned (.int .i64 (Lib.indexByte s.data.toList 125)) ∧ w = w' := by
  cases hE : ([125] == s.toList)
  · have hE2 : ¬ ([125] = s.toList) := by simpa using hE
    go_enter Tryz.func82, Tryz.ntmps82
    go_wp2_with (go_at_call 114; refine (Tryz.stringslite_IndexByte s _ _).mono ?_; rintro e w' ⟨rfl, rfl⟩)
    go_ret
    exact ⟨rfl, rfl⟩
  · have hE2 : [125] = s.toList := by simpa using hE
    have hI := Lib.hid (show Lib.indexByte s.data.toList 125 = 0 by rw [← Lib.toList_data, ← hE2]; rfl)
    clear hE2
    go_enter Tryz.func82, Tryz.ntmps82
    go_wp2_with (go_at_call 114; refine (Tryz.stringslite_IndexByte s _ _).mono ?_; rintro e w' ⟨rfl, rfl⟩)
    go_ret
    exact ⟨ret_int hI.out.symm, rfl⟩

def CutAtEnd (l : List UInt8) : Ending := .returned (.tuple #[.string ⟨(cutAt l).1.toArray⟩, .string ⟨(cutAt l).2.1.toArray⟩, .bool (cutAt l).2.2])
theorem str_of (s : ByteArray) : (⟨s.data.toList.toArray⟩ : ByteArray) = s := rfl

set_option maxHeartbeats 400000 in
theorem lcut_any (s : ByteArray) (w : World) (hm : s.size ≤ 140737488355328) :
    Calls Tryz.prog 138 #[.string s, .string ⟨#[125]⟩] w fun e w' => e = CutAtEnd s.data.toList ∧ ∃ n, w' = w.drewN n := by
  have hl : s.data.toList.length = s.size := by simp
  cases hd : s.data.toList.dropWhile noEnd with
  | nil =>
    have hi := Lib.hid (index_none hd)
    have hE : CutAtEnd s.data.toList = .returned (.tuple #[.string s, .string ⟨#[]⟩, .bool false]) := by
      unfold CutAtEnd cutAt
      rw [hd]
    rw [hE]
    clear hE hd hl
    go_enter Tryz.func138, Tryz.ntmps138
    go_wp2_with (go_at_call 82; refine (index_any s _).mono ?_; rintro e w' ⟨rfl, rfl⟩; rw [hi.out])
    go_ret3
    exact ⟨rfl, 0, rfl⟩
  | cons c b =>
    have hi := Lib.hid (index_some hd)
    have hlen := parts_len hd
    have hE : CutAtEnd s.data.toList = .returned (.tuple #[.string (s.extract 0 (s.data.toList.takeWhile noEnd).length), .string (s.extract ((s.data.toList.takeWhile noEnd).length + 1) s.size), .bool true]) := by
      have p1 : s.extract 0 (s.data.toList.takeWhile noEnd).length = ⟨(s.data.toList.takeWhile noEnd).toArray⟩ := by
        apply ByteArray.ext
        apply Array.toList_inj.1
        rw [show (s.extract 0 (s.data.toList.takeWhile noEnd).length).data.toList = s.data.toList.take (s.data.toList.takeWhile noEnd).length from by simp, parts_take hd]
      have p2 : s.extract ((s.data.toList.takeWhile noEnd).length + 1) s.size = ⟨b.toArray⟩ := by
        apply ByteArray.ext
        apply Array.toList_inj.1
        rw [show (s.extract ((s.data.toList.takeWhile noEnd).length + 1) s.size).data.toList = s.data.toList.drop ((s.data.toList.takeWhile noEnd).length + 1) from extract_all _ _, parts_drop hd]
      rw [p1, p2]
      unfold CutAtEnd cutAt
      rw [hd]
    rw [hE]
    clear hE
    generalize (s.data.toList.takeWhile noEnd).length = i at *
    have c1 : (0 : Int) ≤ ↑i := by omega
    have c2 : (↑i : Int) ≤ ↑s.size := by omega
    have c3 : (0 : Int) ≤ ↑i + 1 := by omega
    have c4 : (↑i + 1 : Int) ≤ ↑s.size := by omega
    clear hd hl hlen
    go_enter Tryz.func138, Tryz.ntmps138
    go_wp2_with (go_at_call 82; refine (index_any s _).mono ?_; rintro e w' ⟨rfl, rfl⟩; rw [hi.out])
    go_region
    go_wp2
    go_ret3
    exact ⟨rfl, 1, rfl⟩
end Go.Proofs.YtonelabeflcplaaGreatDoor
