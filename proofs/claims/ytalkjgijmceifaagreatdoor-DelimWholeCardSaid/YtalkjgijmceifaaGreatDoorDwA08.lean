/-
  src's Runes.
  names: which bytes a name may have; Local, Space of the program.
-/
import Derived.Test.YtalkjgijmceifaaGreatDoorDwA07
import Derived.Test.YtalkjgijmceifaaGreatDoorDwA02
namespace Go.Proofs.YtalkjgijmceifaaGreatDoor
open Go.RowKit
set_option maxRecDepth 100000

theorem num_join (st : Rn) (h : RnInv st) (c : Int) (h0 : 0 ≤ c) (h1 : c ≤ 255) (hok : stOk st.l st.lo st.hi c = true) : bits .or .i64 (st.num * 64) (payI c) = st.num * 64 + payI c := by
  rcases h with ⟨hl, hn⟩ | ⟨hl, hl3, hn0, hlo, hhi, h3, h2, h1'⟩
  · have hp : 0 ≤ payI c ∧ payI c < 128 := by unfold payI; repeat' split <;> omega
    rw [hn]
    exact bits_join .i64 63 (by decide) (fun n a b => by rw [IntKind.wrap_i64]; omega) 7 (0 * 64) (payI c) (by decide) (by decide) (by decide) hp.1 (by omega) (by omega)
  · have hl0 : 0 < st.l := by omega
    simp only [stOk, hl0, if_true, decide_eq_true_eq] at hok
    have hp : payI c = c % 64 := by unfold payI; rw [if_neg (by omega), if_pos (by omega)]
    have hb : st.num < 32768 := by
      rcases (show st.l = 1 ∨ st.l = 2 ∨ st.l = 3 from by omega) with h | h | h
      · exact h1' h
      · have := h2 h; omega
      · have := h3 h; omega
    exact bits_join .i64 63 (by decide) (fun n a b => by rw [IntKind.wrap_i64]; omega) 6 (st.num * 64) (payI c) (by omega) (by omega) (by omega) (by omega) (by omega) (by omega)

set_option maxHeartbeats 1000000 in
theorem runes_any (s : ByteArray) (w : World) (hm : s.size ≤ 1099511627776) :
    Calls Tryz.prog 56 #[.string s] w (RunesPost w s.data.toList) := by
  go_enter Tryz.func56, Tryz.ntmps56
  go_wp2_with (first
    | (go_at_call 35; refine (new_any _).mono ?_; rintro e w' ⟨rfl, rfl⟩))
  go_loopw [4, 6, 11] (fun v nm i wr => ∃ (k : Nat) (st : Rn), k ≤ s.size ∧ i = .int .i64 k ∧ nm = .int .i64 st.num ∧ ScanAt wr w.heap.size st.l st.lo st.hi ∧ ORow wr (w.heap.size + 1) 3 v (st.out.map iV) ∧ Below w.heap.size w wr ∧ RnInv st ∧ st.out.length ≤ k ∧ Hid (runesL s.data.toList = runesGo st (s.data.toList.drop k))) (fun _ _ i _ => s.size - (intOf i).toNat)
  case atStart => exact ⟨0, rn0 [], Nat.zero_le _, rfl, rfl, Blk.new w _ _, ORow.nil _ _ _, (Below.refl _ _).alloc (Nat.le_refl _) _, .inl ⟨rfl, rfl⟩, by simp [rn0], Lib.hid rfl⟩
  case round =>
    obtain ⟨k, st, hk, rfl, rfl, hsc, hown, hbel, hinv, hlen, HR⟩ := hrel
    have hl03 : 0 ≤ st.l ∧ st.l ≤ 3 := by rcases hinv with ⟨a, _⟩ | ⟨a, b, _⟩ <;> omega
    by_cases hlt : k < s.size
    · have hle := byte_le s[k]
      have hdc := drop_cons s k hlt
      by_cases hok : stOk st.l st.lo st.hi s[k].toNat = true
      · have HK := Lib.hid hok
        have hj := num_join st hinv s[k].toNat (by omega) hle hok
        clear hok
        go_wp2_with fail
        refine (step_any _ _ _ _ _ _ hsc hl03.1 hl03.2 (by omega) hle).mono ?_
        rintro e w1 ⟨rfl, hg1, hs1⟩
        rw [HK.out]
        rw [if_pos HK.out] at hs1
        have hnb : 0 ≤ st.num ∧ st.num < 32768 := by
          rcases hinv with ⟨_, a⟩ | ⟨a, b, c, _, _, d3, d2, d1⟩
          · omega
          · refine ⟨c, ?_⟩
            rcases (show st.l = 1 ∨ st.l = 2 ∨ st.l = 3 from by omega) with h | h | h
            · exact d1 h
            · have := d2 h; omega
            · have := d3 h; omega
        obtain ⟨hn0, hn1⟩ := hnb
        have HJ := Lib.hid hj
        clear hj
        go_wp2_with fail
        refine (pay_any _ (by omega) hle _).mono ?_
        rintro e w' ⟨rfl, rfl⟩
        go_wp2_with fail
        rw [HJ.out]
        have hrow1 : ORow w1 (w.heap.size + 1) 3 u4 (st.out.map iV) := hown.kept_far hg1 (by omega)
        have hbel1 : Below w.heap.size w w1 := below_only hbel hg1 hbel.size (Nat.le_refl _)
        have hbs1 : w.heap.size + 1 ≤ w1.heap.size := by have := hg1.size; have := hsc.lt; omega
        have hgo : runesL s.data.toList = match rnStep st (s[k].toNat : Int) with | none => none | some s' => runesGo s' (s.data.toList.drop (k + 1)) := by rw [HR.out, hdc]; rfl
        have hle' : 0 ≤ (s[k].toNat : Int) := by omega
        clear hg1 hsc hown hbel hdc
        by_cases hz : stL st.l s[k].toNat = 0
        · have hst : rnStep st (s[k].toNat : Int) = some ⟨stL st.l s[k].toNat, stLo st.l s[k].toNat, stHi st.l s[k].toNat, 0, st.out ++ [st.num * 64 + payI s[k].toNat]⟩ := by
            unfold rnStep; rw [if_pos HK.out, if_pos hz]
          have hinv1 := rnInv_step hinv hle' hle hst
          rw [hst] at hgo
          have HG := Lib.hid hgo
          have HZ := Lib.hid (show decide (stL st.l s[k].toNat = 0) = true by simpa using hz)
          clear hgo hst hz
          refine (whole_any _ _ _ _ _ hs1).mono ?_
          rintro e w' ⟨rfl, rfl⟩
          rw [HZ.out]
          go_wp2_with (first
            | (at_builtin; refine wp_app1 rfl _ _ 70 rfl (w.heap.size + 1) 3 (.int .i64 0) 8 Tryz.underlying70 Tryz.info3 rfl u4 _ _ rfl (by exact hrow1) rfl _ rfl (by simp [maxLen]; omega) (by simp; omega) (by omega) ?_; intro v2 w2 hown2 hb2 hn2))
          have hrow2 : ORow w2 (w.heap.size + 1) 3 v2 ((st.out ++ [st.num * 64 + payI s[k].toNat]).map iV) := by simpa [iV] using hown2
          have hs2 : ScanAt w2 w.heap.size (stL st.l s[k].toNat) (stLo st.l s[k].toNat) (stHi st.l s[k].toNat) := Blk.grown hs1 hb2 (hrow1.not_own (by omega))
          have hbel2 : Below w.heap.size w w2 := below_row hbel1 hb2 hrow1 (by omega) (by omega)
          clear hown2 hb2 hn2 hs1 hrow1 hbel1
          go_wp2
          go_roundw
          case rel => exact ⟨k + 1, _, by omega, by go_num, rfl, hs2, hrow2, hbel2, hinv1, by simp; omega, HG⟩
          case measure => simp [intOf]; omega
        · have hst : rnStep st (s[k].toNat : Int) = some ⟨stL st.l s[k].toNat, stLo st.l s[k].toNat, stHi st.l s[k].toNat, st.num * 64 + payI s[k].toNat, st.out⟩ := by
            unfold rnStep; rw [if_pos HK.out, if_neg hz]
          have hinv1 := rnInv_step hinv hle' hle hst
          rw [hst] at hgo
          have HG := Lib.hid hgo
          have HZ := Lib.hid (show decide (stL st.l s[k].toNat = 0) = false by simpa using hz)
          clear hgo hst hz
          refine (whole_any _ _ _ _ _ hs1).mono ?_
          rintro e w' ⟨rfl, rfl⟩
          rw [HZ.out]
          go_wp2
          go_roundw
          case rel => exact ⟨k + 1, ⟨stL st.l s[k].toNat, stLo st.l s[k].toNat, stHi st.l s[k].toNat, st.num * 64 + payI s[k].toNat, st.out⟩, by omega, by go_num, rfl, hs1, hrow1, hbel1, hinv1, (by show st.out.length ≤ k + 1; omega), HG⟩
          case measure => simp [intOf]; omega
      · have HK := Lib.hid (show stOk st.l st.lo st.hi s[k].toNat = false by simpa using hok)
        have hnone : runesL s.data.toList = none := by
          rw [HR.out, hdc]
          simp only [runesGo, rnStep]
          rw [if_neg hok]
        have HN := Lib.hid hnone
        clear hnone hok hdc
        go_wp2_with fail
        refine (step_any _ _ _ _ _ _ hsc hl03.1 hl03.2 (by omega) hle).mono ?_
        rintro e w1 ⟨rfl, hg1, hs1⟩
        rw [HK.out]
        go_wp2
        go_ret2
        exact runesPost_none HN.out (below_only hbel hg1 hbel.size (Nat.le_refl _))
    · have hkn : k = s.size := by omega
      subst hkn
      have hfin : runesL s.data.toList = if st.l = 0 then some st.out else none := by
        rw [HR.out, List.drop_eq_nil_of_le (by simp)]
        rfl
      by_cases hz : st.l = 0
      · have HN := Lib.hid (show runesL s.data.toList = some st.out by rw [hfin, if_pos hz])
        have HZ := Lib.hid (show decide (st.l = 0) = true by simpa using hz)
        clear hfin hz
        go_wp2_with (first
          | (go_at_call 50; refine (whole_any _ _ _ _ _ hsc).mono ?_; rintro e w' ⟨rfl, rfl⟩; rw [HZ.out]))
        go_ret2
        exact runesPost_some HN.out (hown.mono (by omega)) hbel
      · have HN := Lib.hid (show runesL s.data.toList = none by rw [hfin, if_neg hz])
        have HZ := Lib.hid (show decide (st.l = 0) = false by simpa using hz)
        clear hfin hz
        go_wp2_with (first
          | (go_at_call 50; refine (whole_any _ _ _ _ _ hsc).mono ?_; rintro e w' ⟨rfl, rfl⟩; rw [HZ.out]))
        go_ret2
        exact runesPost_none HN.out hbel
end Go.Proofs.YtalkjgijmceifaaGreatDoor
namespace Go.Proofs.YtalkjgijmceifaaGreatDoor
open Go.RowKit Go.Maps
set_option maxRecDepth 100000

theorem begins_any (b : Int) (w : World) :
    Calls Tryz.prog 62 #[.int .u8 b] w fun e w' => e = .returned (.bool (firstB b)) ∧ w = w' := by
  go_enter Tryz.func62, Tryz.ntmps62
  go_wp2
  all_goals go_ret
  all_goals refine ⟨ret_bool ?_, rfl⟩
  all_goals simp only [firstB]
  all_goals (rw [Bool.eq_iff_iff]; simp; try omega)

theorem later_of_first {b : Int} (h : firstB b = true) : laterB b = true := by
  unfold firstB at h
  unfold laterB
  rw [decide_eq_true_iff] at h ⊢
  omega
theorem later_eq (b : Int) : laterB b = (firstB b || decide ((48 ≤ b ∧ b ≤ 57) ∨ b = 45 ∨ b = 46)) := by
  unfold firstB laterB
  rw [Bool.eq_iff_iff]
  simp
  omega

theorem inloc_any (b : Int) (w : World) :
    Calls Tryz.prog 63 #[.int .u8 b] w fun e w' => e = .returned (.bool (laterB b)) ∧ w = w' := by
  cases hf : firstB b
  all_goals have HF := Lib.hid hf
  all_goals clear hf
  all_goals
    go_enter Tryz.func63, Tryz.ntmps63
    go_wp2_with (go_at_call 62; refine (begins_any _ _).mono ?_; rintro e w' ⟨rfl, rfl⟩; rw [HF.out])
  all_goals go_ret
  all_goals refine ⟨ret_bool ?_, rfl⟩
  all_goals rw [later_eq]
  all_goals first
    | (rw [HF.out]; simp only [Bool.true_or]; done)
    | (rw [HF.out, Bool.eq_iff_iff]; simp; try omega)
    | decide

theorem inspace_any (b : Int) (w : World) :
    Calls Tryz.prog 61 #[.int .u8 b] w fun e w' => e = .returned (.bool (!badB b)) ∧ w = w' := by
  go_enter Tryz.func61, Tryz.ntmps61
  go_wp2
  all_goals try (go_step3; go_wp2)
  all_goals go_ret
  all_goals refine ⟨ret_bool ?_, rfl⟩
  all_goals simp only [beq_iff_eq, beq_eq_false_iff_ne] at *
  all_goals (rw [Bool.eq_iff_iff]; simp [badB]; try omega)

theorem local_le {l : List UInt8} (h : localL l = true) : 1 ≤ l.length ∧ l.length ≤ 16 ∧ l.all (fun d => laterB (d.toNat : Int)) = true := by
  have h1 := local_len h
  cases l with
  | nil => cases h
  | cons c t =>
    simp only [localL, Bool.and_eq_true, decide_eq_true_eq] at h
    refine ⟨h1.1, h1.2, ?_⟩
    rw [List.all_cons, later_of_first h.1.2, h.2]
    rfl
theorem local_eq (s : ByteArray) (h : 0 < s.size) (h16 : s.size ≤ 16) : localL s.data.toList = (firstB (s[0].toNat : Int) && s.data.toList.all (fun d => laterB (d.toNat : Int))) := by
  have hl : s.data.toList.length = s.size := by simp
  have he := bytes_cons s h
  rw [he] at hl ⊢
  generalize List.drop 1 s.data.toList = t at *
  simp only [List.length_cons] at hl
  simp only [localL, List.all_cons]
  rw [decide_eq_true (show t.length < 16 by omega), Bool.true_and]
  cases hf : firstB (s[0].toNat : Int)
  · rfl
  · rw [later_of_first hf, Bool.true_and, Bool.true_and]
theorem local_long (s : ByteArray) (h : s.size = 0 ∨ 16 < s.size) : localL s.data.toList = false := by
  have hl : s.data.toList.length = s.size := by simp
  cases hb : localL s.data.toList with
  | false => rfl
  | true => have := local_len hb; omega
theorem all_snoc {p : UInt8 → Bool} {s : ByteArray} {k : Nat} (h : k < s.size) (ha : (s.data.toList.take k).all p = true) : (s.data.toList.take (k + 1)).all p = p s[k] := by
  rw [take_snoc s k h, List.all_append, ha]
  simp
theorem all_break {p : UInt8 → Bool} {s : ByteArray} {k : Nat} (h : k < s.size) (hp : p s[k] = false) : s.data.toList.all p = false := by
  cases ha : s.data.toList.all p with
  | false => rfl
  | true =>
    rw [List.all_eq_true] at ha
    have := ha s[k] (by simp [ByteArray.getElem_eq_getElem_data])
    rw [hp] at this
    cases this

theorem str_ne {s : ByteArray} (h : ¬ s.size = 0) : s.toList.isEmpty = false := by
  rw [Lib.toList_data]
  cases hl : s.data.toList with
  | nil => have : s.data.toList.length = s.size := by simp
           rw [hl] at this
           simp at this
           omega
  | cons c t => rfl
theorem str_ne2 {s : ByteArray} (h : ¬ s.size = 0) : ¬ s.toList = [] := by
  have := str_ne h
  intro hc
  rw [hc] at this
  cases this

set_option maxHeartbeats 1000000 in
theorem local_any (s : ByteArray) (w : World) (hm : s.size ≤ 140737488355328) :
    Calls Tryz.prog 54 #[.string s] w fun e w' => e = .returned (.bool (localL s.data.toList)) ∧ w = w' := by
  by_cases h0 : s.size = 0
  · rw [local_long s (.inl h0)]
    have hs : s = ⟨#[]⟩ := ByteArray.ext (Array.eq_empty_of_size_eq_zero h0)
    subst hs
    go_enter Tryz.func54, Tryz.ntmps54
    go_wp2
    go_ret
    exact ⟨rfl, rfl⟩
  have hn1 := str_ne h0
  have hn2 := str_ne2 h0
  by_cases h16 : 16 < s.size
  · rw [local_long s (.inr h16)]
    go_enter Tryz.func54, Tryz.ntmps54
    go_wp2
    go_ret
    exact ⟨rfl, rfl⟩
  have hp : 0 < s.size := by omega
  have hR := local_eq s hp (by omega)
  generalize hgl : localL s.data.toList = R at *
  have HR := Lib.hid hR
  clear hR hgl h0
  rcases Bool.eq_false_or_eq_true (firstB (s[0].toNat : Int)) with hf | hf
  case' inl => have HF := Lib.hid hf
  case' inr => have HF := Lib.hid hf
  all_goals clear hf
  case inr =>
    go_enter Tryz.func54, Tryz.ntmps54
    go_wp2_with (go_at_call 62; refine (begins_any _ _).mono ?_; rintro e w' ⟨rfl, rfl⟩; rw [HF.out])
    go_ret
    refine ⟨ret_bool ?_, rfl⟩
    rw [HR.out, HF.out]
    rfl
  case inl =>
    go_enter Tryz.func54, Tryz.ntmps54
    go_wp2_with (go_at_call 62; refine (begins_any _ _).mono ?_; rintro e w' ⟨rfl, rfl⟩; rw [HF.out])
    go_loop [19] (fun i => ∃ k : Nat, k ≤ s.size ∧ i = .int .i64 k ∧ Hid ((s.data.toList.take k).all (fun d => laterB (d.toNat : Int)) = true)) (fun i => s.size - (intOf i).toNat)
    case atStart => exact ⟨0, Nat.zero_le _, rfl, Lib.hid rfl⟩
    case round =>
      obtain ⟨k, hk, rfl, HK⟩ := hrel
      by_cases hlt : k < s.size
      · rcases Bool.eq_false_or_eq_true (laterB (s[k].toNat : Int)) with hl | hl
        case' inl => have HL := Lib.hid hl
        case' inr => have HL := Lib.hid hl
        all_goals clear hl
        case inr =>
          go_wp2_with (go_at_call 63; refine (inloc_any _ _).mono ?_; rintro e w' ⟨rfl, rfl⟩; rw [HL.out])
          go_ret
          refine ⟨ret_bool ?_, rfl⟩
          rw [HR.out, all_break hlt HL.out, Bool.and_false]
        case inl =>
          go_wp2_with (go_at_call 63; refine (inloc_any _ _).mono ?_; rintro e w' ⟨rfl, rfl⟩; rw [HL.out])
          go_round
          case rel => exact ⟨k + 1, by omega, by go_num, Lib.hid ((all_snoc hlt HK.out).trans HL.out)⟩
          case measure => simp [intOf]; omega
      · go_wp2
        go_ret
        refine ⟨ret_bool ?_, rfl⟩
        have hK := HK.out
        rw [List.take_of_length_le (by simp; omega)] at hK
        rw [HR.out, HF.out, hK]
        rfl
end Go.Proofs.YtalkjgijmceifaaGreatDoor
