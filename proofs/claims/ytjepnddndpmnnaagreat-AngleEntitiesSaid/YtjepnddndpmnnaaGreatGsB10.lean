/-
  src's Runes.
  names: which bytes a name may have; Local, Space of the program.
  names: Space, Cut and Join of the program.
  names: Cut and Join of the program.
-/
import Derived.Test.YtjepnddndpmnnaaGreatGsB08
import Derived.Test.YtjepnddndpmnnaaGreatGsB09
import Derived.Test.YtjepnddndpmnnaaGreatGsB01
import Derived.Test.YtjepnddndpmnnaaGreatGsB05
import Derived.Test.YtjepnddndpmnnaaGreatShelf
namespace Go.Proofs.YtjepnddndpmnnaaGreat
open Go.RowKit
set_option maxRecDepth 100000

theorem num_join (st : Rn) (h : RnInv st) (c : Int) (h0 : 0 ≤ c) (h1 : c ≤ 255) (hok : stOk st.l st.lo st.hi c = true) : bits .or .i64 (st.num * 64) (payI c) = st.num * 64 + payI c := by
  rcases h with ⟨hl, hn⟩ | ⟨hl, hl3, hn0, hlo, hhi, h3, h2, h1'⟩
  · have hp : 0 ≤ payI c ∧ payI c < 128 := by unfold payI; repeat' split <;> omega
    rw [hn]
    exact bits_join .i64 63 (by decide) (fun n a b => by rw [IntKind.wrap_i64]; omega) 7 (0 * 64) (payI c) (by decide) (by decide) (by decide) hp.1 (by omega) (by omega)
  · have hl0 : 0 < st.l := by omega
    simp only [stOk, hl0, if_true, decide_eq_true_eq] at hok
    have hp : payI c = c % 64 := by unfold payI; rw [if_neg (by omega), if_pos (by omega)]
    have hb : st.num < 32768 := by
      rcases (show st.l = 1 ∨ st.l = 2 ∨ st.l = 3 from by omega) with h | h | h
      · exact h1' h
      · have := h2 h; omega
      · have := h3 h; omega
    exact bits_join .i64 63 (by decide) (fun n a b => by rw [IntKind.wrap_i64]; omega) 6 (st.num * 64) (payI c) (by omega) (by omega) (by omega) (by omega) (by omega) (by omega)

set_option maxHeartbeats 1000000 in
theorem runes_any (s : ByteArray) (w : World) (hm : s.size ≤ 1099511627776) :
    Calls Tryz.prog 172 #[.string s] w (RunesPost w s.data.toList) := by
  go_enter Tryz.func172, Tryz.ntmps172
  go_wp2_with (first
    | (go_at_call 47; refine (new_any _).mono ?_; rintro e w' ⟨rfl, rfl⟩))
  go_loopw [4, 6, 11] (fun v nm i wr => ∃ (k : Nat) (st : Rn), k ≤ s.size ∧ i = .int .i64 k ∧ nm = .int .i64 st.num ∧ ScanAt wr w.heap.size st.l st.lo st.hi ∧ ORow wr (w.heap.size + 1) 3 v (st.out.map iV) ∧ Below w.heap.size w wr ∧ RnInv st ∧ st.out.length ≤ k ∧ Hid (runesL s.data.toList = runesGo st (s.data.toList.drop k))) (fun _ _ i _ => s.size - (intOf i).toNat)
  case atStart => exact ⟨0, rn0 [], Nat.zero_le _, rfl, rfl, Blk.new w _ _, ORow.nil _ _ _, (Below.refl _ _).alloc (Nat.le_refl _) _, .inl ⟨rfl, rfl⟩, by simp [rn0], Lib.hid rfl⟩
  case round =>
    obtain ⟨k, st, hk, rfl, rfl, hsc, hown, hbel, hinv, hlen, HR⟩ := hrel
    have hl03 : 0 ≤ st.l ∧ st.l ≤ 3 := by rcases hinv with ⟨a, _⟩ | ⟨a, b, _⟩ <;> omega
    by_cases hlt : k < s.size
    · have hle := byte_le s[k]
      have hdc := drop_cons s k hlt
      by_cases hok : stOk st.l st.lo st.hi s[k].toNat = true
      · have HK := Lib.hid hok
        have hj := num_join st hinv s[k].toNat (by omega) hle hok
        clear hok
        go_wp2_with fail
        refine (step_any _ _ _ _ _ _ hsc hl03.1 hl03.2 (by omega) hle).mono ?_
        rintro e w1 ⟨rfl, hg1, hs1⟩
        rw [HK.out]
        rw [if_pos HK.out] at hs1
        have hnb : 0 ≤ st.num ∧ st.num < 32768 := by
          rcases hinv with ⟨_, a⟩ | ⟨a, b, c, _, _, d3, d2, d1⟩
          · omega
          · refine ⟨c, ?_⟩
            rcases (show st.l = 1 ∨ st.l = 2 ∨ st.l = 3 from by omega) with h | h | h
            · exact d1 h
            · have := d2 h; omega
            · have := d3 h; omega
        obtain ⟨hn0, hn1⟩ := hnb
        have HJ := Lib.hid hj
        clear hj
        go_wp2_with fail
        refine (pay_any _ (by omega) hle _).mono ?_
        rintro e w' ⟨rfl, rfl⟩
        go_wp2_with fail
        rw [HJ.out]
        have hrow1 : ORow w1 (w.heap.size + 1) 3 u4 (st.out.map iV) := hown.kept_far hg1 (by omega)
        have hbel1 : Below w.heap.size w w1 := below_only hbel hg1 hbel.size (Nat.le_refl _)
        have hbs1 : w.heap.size + 1 ≤ w1.heap.size := by have := hg1.size; have := hsc.lt; omega
        have hgo : runesL s.data.toList = match rnStep st (s[k].toNat : Int) with | none => none | some s' => runesGo s' (s.data.toList.drop (k + 1)) := by rw [HR.out, hdc]; rfl
        have hle' : 0 ≤ (s[k].toNat : Int) := by omega
        clear hg1 hsc hown hbel hdc
        by_cases hz : stL st.l s[k].toNat = 0
        · have hst : rnStep st (s[k].toNat : Int) = some ⟨stL st.l s[k].toNat, stLo st.l s[k].toNat, stHi st.l s[k].toNat, 0, st.out ++ [st.num * 64 + payI s[k].toNat]⟩ := by
            unfold rnStep; rw [if_pos HK.out, if_pos hz]
          have hinv1 := rnInv_step hinv hle' hle hst
          rw [hst] at hgo
          have HG := Lib.hid hgo
          have HZ := Lib.hid (show decide (stL st.l s[k].toNat = 0) = true by simpa using hz)
          clear hgo hst hz
          refine (whole_any _ _ _ _ _ hs1).mono ?_
          rintro e w' ⟨rfl, rfl⟩
          rw [HZ.out]
          go_wp2_with (first
            | (at_builtin; refine wp_app1 rfl _ _ 32 rfl (w.heap.size + 1) 3 (.int .i64 0) 8 Tryz.underlying32 Tryz.info3 rfl u4 _ _ rfl (by exact hrow1) rfl _ rfl (by simp [maxLen]; omega) (by simp; omega) (by omega) ?_; intro v2 w2 hown2 hb2 hn2))
          have hrow2 : ORow w2 (w.heap.size + 1) 3 v2 ((st.out ++ [st.num * 64 + payI s[k].toNat]).map iV) := by simpa [iV] using hown2
          have hs2 : ScanAt w2 w.heap.size (stL st.l s[k].toNat) (stLo st.l s[k].toNat) (stHi st.l s[k].toNat) := Blk.grown hs1 hb2 (hrow1.not_own (by omega))
          have hbel2 : Below w.heap.size w w2 := below_row hbel1 hb2 hrow1 (by omega) (by omega)
          clear hown2 hb2 hn2 hs1 hrow1 hbel1
          go_wp2
          go_roundw
          case rel => exact ⟨k + 1, _, by omega, by go_num, rfl, hs2, hrow2, hbel2, hinv1, by simp; omega, HG⟩
          case measure => simp [intOf]; omega
        · have hst : rnStep st (s[k].toNat : Int) = some ⟨stL st.l s[k].toNat, stLo st.l s[k].toNat, stHi st.l s[k].toNat, st.num * 64 + payI s[k].toNat, st.out⟩ := by
            unfold rnStep; rw [if_pos HK.out, if_neg hz]
          have hinv1 := rnInv_step hinv hle' hle hst
          rw [hst] at hgo
          have HG := Lib.hid hgo
          have HZ := Lib.hid (show decide (stL st.l s[k].toNat = 0) = false by simpa using hz)
          clear hgo hst hz
          refine (whole_any _ _ _ _ _ hs1).mono ?_
          rintro e w' ⟨rfl, rfl⟩
          rw [HZ.out]
          go_wp2
          go_roundw
          case rel => exact ⟨k + 1, ⟨stL st.l s[k].toNat, stLo st.l s[k].toNat, stHi st.l s[k].toNat, st.num * 64 + payI s[k].toNat, st.out⟩, by omega, by go_num, rfl, hs1, hrow1, hbel1, hinv1, (by show st.out.length ≤ k + 1; omega), HG⟩
          case measure => simp [intOf]; omega
      · have HK := Lib.hid (show stOk st.l st.lo st.hi s[k].toNat = false by simpa using hok)
        have hnone : runesL s.data.toList = none := by
          rw [HR.out, hdc]
          simp only [runesGo, rnStep]
          rw [if_neg hok]
        have HN := Lib.hid hnone
        clear hnone hok hdc
        go_wp2_with fail
        refine (step_any _ _ _ _ _ _ hsc hl03.1 hl03.2 (by omega) hle).mono ?_
        rintro e w1 ⟨rfl, hg1, hs1⟩
        rw [HK.out]
        go_wp2
        go_ret2
        exact runesPost_none HN.out (below_only hbel hg1 hbel.size (Nat.le_refl _))
    · have hkn : k = s.size := by omega
      subst hkn
      have hfin : runesL s.data.toList = if st.l = 0 then some st.out else none := by
        rw [HR.out, List.drop_eq_nil_of_le (by simp)]
        rfl
      by_cases hz : st.l = 0
      · have HN := Lib.hid (show runesL s.data.toList = some st.out by rw [hfin, if_pos hz])
        have HZ := Lib.hid (show decide (st.l = 0) = true by simpa using hz)
        clear hfin hz
        go_wp2_with (first
          | (go_at_call 51; refine (whole_any _ _ _ _ _ hsc).mono ?_; rintro e w' ⟨rfl, rfl⟩; rw [HZ.out]))
        go_ret2
        exact runesPost_some HN.out (hown.mono (by omega)) hbel
      · have HN := Lib.hid (show runesL s.data.toList = none by rw [hfin, if_neg hz])
        have HZ := Lib.hid (show decide (st.l = 0) = false by simpa using hz)
        clear hfin hz
        go_wp2_with (first
          | (go_at_call 51; refine (whole_any _ _ _ _ _ hsc).mono ?_; rintro e w' ⟨rfl, rfl⟩; rw [HZ.out]))
        go_ret2
        exact runesPost_none HN.out hbel
end Go.Proofs.YtjepnddndpmnnaaGreat
namespace Go.Proofs.YtjepnddndpmnnaaGreat
open Go.RowKit Go.Maps
set_option maxRecDepth 100000

theorem begins_any (b : Int) (w : World) :
    Calls Tryz.prog 147 #[.int .u8 b] w fun e w' => e = .returned (.bool (firstB b)) ∧ w = w' := by
  go_enter Tryz.func147, Tryz.ntmps147
  go_wp2
  all_goals go_ret
  all_goals refine ⟨ret_bool ?_, rfl⟩
  all_goals simp only [firstB]
  all_goals (rw [Bool.eq_iff_iff]; simp; try omega)

theorem later_of_first {b : Int} (h : firstB b = true) : laterB b = true := by
  unfold firstB at h
  unfold laterB
  rw [decide_eq_true_iff] at h ⊢
  omega
theorem later_eq (b : Int) : laterB b = (firstB b || decide ((48 ≤ b ∧ b ≤ 57) ∨ b = 45 ∨ b = 46)) := by
  unfold firstB laterB
  rw [Bool.eq_iff_iff]
  simp
  omega

theorem inloc_any (b : Int) (w : World) :
    Calls Tryz.prog 148 #[.int .u8 b] w fun e w' => e = .returned (.bool (laterB b)) ∧ w = w' := by
  cases hf : firstB b
  all_goals have HF := Lib.hid hf
  all_goals clear hf
  all_goals
    go_enter Tryz.func148, Tryz.ntmps148
    go_wp2_with (go_at_call 147; refine (begins_any _ _).mono ?_; rintro e w' ⟨rfl, rfl⟩; rw [HF.out])
  all_goals go_ret
  all_goals refine ⟨ret_bool ?_, rfl⟩
  all_goals rw [later_eq]
  all_goals first
    | (rw [HF.out]; simp only [Bool.true_or]; done)
    | (rw [HF.out, Bool.eq_iff_iff]; simp; try omega)
    | decide

theorem inspace_any (b : Int) (w : World) :
    Calls Tryz.prog 168 #[.int .u8 b] w fun e w' => e = .returned (.bool (!badB b)) ∧ w = w' := by
  go_enter Tryz.func168, Tryz.ntmps168
  go_wp2
  all_goals try (go_step3; go_wp2)
  all_goals go_ret
  all_goals refine ⟨ret_bool ?_, rfl⟩
  all_goals simp only [beq_iff_eq, beq_eq_false_iff_ne] at *
  all_goals (rw [Bool.eq_iff_iff]; simp [badB]; try omega)

theorem local_le {l : List UInt8} (h : localL l = true) : 1 ≤ l.length ∧ l.length ≤ 16 ∧ l.all (fun d => laterB (d.toNat : Int)) = true := by
  have h1 := local_len h
  cases l with
  | nil => cases h
  | cons c t =>
    simp only [localL, Bool.and_eq_true, decide_eq_true_eq] at h
    refine ⟨h1.1, h1.2, ?_⟩
    rw [List.all_cons, later_of_first h.1.2, h.2]
    rfl
theorem local_eq (s : ByteArray) (h : 0 < s.size) (h16 : s.size ≤ 16) : localL s.data.toList = (firstB (s[0].toNat : Int) && s.data.toList.all (fun d => laterB (d.toNat : Int))) := by
  have hl : s.data.toList.length = s.size := by simp
  have he := bytes_cons s h
  rw [he] at hl ⊢
  generalize List.drop 1 s.data.toList = t at *
  simp only [List.length_cons] at hl
  simp only [localL, List.all_cons]
  rw [decide_eq_true (show t.length < 16 by omega), Bool.true_and]
  cases hf : firstB (s[0].toNat : Int)
  · rfl
  · rw [later_of_first hf, Bool.true_and, Bool.true_and]
theorem local_long (s : ByteArray) (h : s.size = 0 ∨ 16 < s.size) : localL s.data.toList = false := by
  have hl : s.data.toList.length = s.size := by simp
  cases hb : localL s.data.toList with
  | false => rfl
  | true => have := local_len hb; omega
theorem all_snoc {p : UInt8 → Bool} {s : ByteArray} {k : Nat} (h : k < s.size) (ha : (s.data.toList.take k).all p = true) : (s.data.toList.take (k + 1)).all p = p s[k] := by
  rw [take_snoc s k h, List.all_append, ha]
  simp
theorem all_break {p : UInt8 → Bool} {s : ByteArray} {k : Nat} (h : k < s.size) (hp : p s[k] = false) : s.data.toList.all p = false := by
  cases ha : s.data.toList.all p with
  | false => rfl
  | true =>
    rw [List.all_eq_true] at ha
    have := ha s[k] (by simp [ByteArray.getElem_eq_getElem_data])
    rw [hp] at this
    cases this

theorem str_ne {s : ByteArray} (h : ¬ s.size = 0) : s.toList.isEmpty = false := by
  rw [Lib.toList_data]
  cases hl : s.data.toList with
  | nil => have : s.data.toList.length = s.size := by simp
           rw [hl] at this
           simp at this
           omega
  | cons c t => rfl
theorem str_ne2 {s : ByteArray} (h : ¬ s.size = 0) : ¬ s.toList = [] := by
  have := str_ne h
  intro hc
  rw [hc] at this
  cases this

set_option maxHeartbeats 1000000 in
theorem local_any (s : ByteArray) (w : World) (hm : s.size ≤ 140737488355328) :
    Calls Tryz.prog 134 #[.string s] w fun e w' => e = .returned (.bool (localL s.data.toList)) ∧ w = w' := by
  by_cases h0 : s.size = 0
  · rw [local_long s (.inl h0)]
    have hs : s = ⟨#[]⟩ := ByteArray.ext (Array.eq_empty_of_size_eq_zero h0)
    subst hs
    go_enter Tryz.func134, Tryz.ntmps134
    go_wp2
    go_ret
    exact ⟨rfl, rfl⟩
  have hn1 := str_ne h0
  have hn2 := str_ne2 h0
  by_cases h16 : 16 < s.size
  · rw [local_long s (.inr h16)]
    go_enter Tryz.func134, Tryz.ntmps134
    go_wp2
    go_ret
    exact ⟨rfl, rfl⟩
  have hp : 0 < s.size := by omega
  have hR := local_eq s hp (by omega)
  generalize hgl : localL s.data.toList = R at *
  have HR := Lib.hid hR
  clear hR hgl h0
  rcases Bool.eq_false_or_eq_true (firstB (s[0].toNat : Int)) with hf | hf
  case' inl => have HF := Lib.hid hf
  case' inr => have HF := Lib.hid hf
  all_goals clear hf
  case inr =>
    go_enter Tryz.func134, Tryz.ntmps134
    go_wp2_with (go_at_call 147; refine (begins_any _ _).mono ?_; rintro e w' ⟨rfl, rfl⟩; rw [HF.out])
    go_ret
    refine ⟨ret_bool ?_, rfl⟩
    rw [HR.out, HF.out]
    rfl
  case inl =>
    go_enter Tryz.func134, Tryz.ntmps134
    go_wp2_with (go_at_call 147; refine (begins_any _ _).mono ?_; rintro e w' ⟨rfl, rfl⟩; rw [HF.out])
    go_loop [19] (fun i => ∃ k : Nat, k ≤ s.size ∧ i = .int .i64 k ∧ Hid ((s.data.toList.take k).all (fun d => laterB (d.toNat : Int)) = true)) (fun i => s.size - (intOf i).toNat)
    case atStart => exact ⟨0, Nat.zero_le _, rfl, Lib.hid rfl⟩
    case round =>
      obtain ⟨k, hk, rfl, HK⟩ := hrel
      by_cases hlt : k < s.size
      · rcases Bool.eq_false_or_eq_true (laterB (s[k].toNat : Int)) with hl | hl
        case' inl => have HL := Lib.hid hl
        case' inr => have HL := Lib.hid hl
        all_goals clear hl
        case inr =>
          go_wp2_with (go_at_call 148; refine (inloc_any _ _).mono ?_; rintro e w' ⟨rfl, rfl⟩; rw [HL.out])
          go_ret
          refine ⟨ret_bool ?_, rfl⟩
          rw [HR.out, all_break hlt HL.out, Bool.and_false]
        case inl =>
          go_wp2_with (go_at_call 148; refine (inloc_any _ _).mono ?_; rintro e w' ⟨rfl, rfl⟩; rw [HL.out])
          go_round
          case rel => exact ⟨k + 1, by omega, by go_num, Lib.hid ((all_snoc hlt HK.out).trans HL.out)⟩
          case measure => simp [intOf]; omega
      · go_wp2
        go_ret
        refine ⟨ret_bool ?_, rfl⟩
        have hK := HK.out
        rw [List.take_of_length_le (by simp; omega)] at hK
        rw [HR.out, HF.out, hK]
        rfl
end Go.Proofs.YtjepnddndpmnnaaGreat
namespace Go.Proofs.YtjepnddndpmnnaaGreat
open Go.RowKit Go.Maps
set_option maxRecDepth 100000

theorem space_long (s : ByteArray) (h : s.size = 0 ∨ 48 < s.size) : spaceL s.data.toList = false := by
  have hl : s.data.toList.length = s.size := by simp
  cases hb : spaceL s.data.toList with
  | false => rfl
  | true => have := space_len hb; omega
theorem space_eq (s : ByteArray) (h : 0 < s.size) (h48 : s.size ≤ 48) : spaceL s.data.toList = ((runesL s.data.toList).isSome && s.data.toList.all (fun d => !badB (d.toNat : Int))) := by
  have hl : s.data.toList.length = s.size := by simp
  unfold spaceL
  rw [decide_eq_true (show 1 ≤ s.data.toList.length ∧ s.data.toList.length ≤ 48 by omega), Bool.and_true]

set_option maxHeartbeats 1000000 in
theorem space_any (s : ByteArray) (w : World) (hm : s.size ≤ 140737488355328) :
    Calls Tryz.prog 160 #[.string s] w fun e w' => e = .returned (.bool (spaceL s.data.toList)) ∧ Below w.heap.size w w' := by
  by_cases h0 : s.size = 0
  · rw [space_long s (.inl h0)]
    have hs : s = ⟨#[]⟩ := ByteArray.ext (Array.eq_empty_of_size_eq_zero h0)
    subst hs
    go_enter Tryz.func160, Tryz.ntmps160
    go_wp2
    go_ret
    exact ⟨rfl, Below.refl _ _⟩
  have hn1 := str_ne h0
  have hn2 := str_ne2 h0
  by_cases h48 : 48 < s.size
  · rw [space_long s (.inr h48)]
    go_enter Tryz.func160, Tryz.ntmps160
    go_wp2
    go_ret
    exact ⟨rfl, Below.refl _ _⟩
  have hR := space_eq s (by omega) (by omega)
  generalize hgl : spaceL s.data.toList = R at *
  have HR := Lib.hid hR
  clear hR hgl h0
  go_enter Tryz.func160, Tryz.ntmps160
  go_wp2_with (first
    | (go_at_call 47; refine (new_any _).mono ?_; rintro e w' ⟨rfl, rfl⟩))
  go_loopw [15] (fun i wr => ∃ (k : Nat) (l lo hi : Int), k ≤ s.size ∧ i = .int .i64 k ∧ ScanAt wr w.heap.size l lo hi ∧ 0 ≤ l ∧ l ≤ 3 ∧ Below w.heap.size w wr ∧ Hid (UtfAt s.data.toList k l lo hi) ∧ Hid ((s.data.toList.take k).all (fun d => !badB (d.toNat : Int)) = true)) (fun i _ => s.size - (intOf i).toNat)
  case atStart => exact ⟨0, 0, 128, 191, Nat.zero_le _, rfl, Blk.new w _ _, by decide, by decide, (Below.refl _ _).alloc (Nat.le_refl _) _, Lib.hid ⟨0, [], rfl⟩, Lib.hid rfl⟩
  case round =>
    obtain ⟨k, l, lo, hi, hk, rfl, hsc, h0, h3, hbel, HW, HK⟩ := hrel
    by_cases hlt : k < s.size
    · have hle := byte_le s[k]
      have HD := Lib.hid (drop_cons s k hlt)
      have hr := stL_range (b := s[k].toNat) h0 h3
      obtain ⟨hr0, hr3⟩ := hr
      rcases Bool.eq_false_or_eq_true (badB (s[k].toNat : Int)) with hb | hb
      case' inl => have HB := Lib.hid hb
      case' inr => have HB := Lib.hid hb
      all_goals clear hb
      case inl =>
        have HX := Lib.hid (all_break (p := fun d => !badB (d.toNat : Int)) hlt (by rw [HB.out]; rfl))
        go_wp2_with (first
          | (go_at_call 168; refine (inspace_any _ _).mono ?_; rintro e w' ⟨rfl, rfl⟩; rw [HB.out]))
        go_ret
        refine ⟨ret_bool ?_, hbel⟩
        rw [HR.out, HX.out, Bool.and_false]
      case inr =>
        have HX := Lib.hid (all_snoc (p := fun d => !badB (d.toNat : Int)) hlt HK.out)
        go_wp2_with (first
          | (go_at_call 168; refine (inspace_any _ _).mono ?_; rintro e w' ⟨rfl, rfl⟩; rw [HB.out]))
        refine (step_any _ _ _ _ _ _ hsc h0 h3 (by omega) hle).mono ?_
        rintro e w1 ⟨rfl, hg1, hs1⟩
        have hbel1 : Below w.heap.size w w1 := below_only hbel hg1 hbel.size (Nat.le_refl _)
        clear hg1 hsc hbel
        generalize hO : stOk l lo hi s[k].toNat = O at *
        have HO := Lib.hid hO
        clear hO
        cases O
        · have HE := Lib.hid (utf_bad HD.out HW.out HO.out)
          go_wp2
          go_ret
          refine ⟨ret_bool ?_, hbel1⟩
          rw [HR.out, HE.out, Bool.false_and]
        · rw [if_pos rfl] at hs1
          go_wp2
          go_roundw
          case rel => exact ⟨k + 1, _, _, _, by omega, by go_num, hs1, hr0, hr3, hbel1, Lib.hid (utf_step HD.out HW.out HO.out), Lib.hid (HX.out.trans (by rw [HB.out]; rfl))⟩
          case measure => simp [intOf]; omega
    · have hend := utf_end (by simp; omega) HW.out
      have HE := Lib.hid hend
      clear hend
      go_wp2_with (first
        | (go_at_call 51; refine (whole_any _ _ _ _ _ hsc).mono ?_; rintro e w' ⟨rfl, rfl⟩))
      go_ret
      refine ⟨ret_bool ?_, hbel⟩
      have hK := HK.out
      rw [List.take_of_length_le (by simp; omega)] at hK
      rw [HR.out, HE.out, hK, Bool.and_true]

theorem clone_any (s : ByteArray) (w : World) (hm : s.size ≤ 140737488355328) :
    Calls Tryz.prog 140 #[.string s] w fun e w' => e = .returned (.string s) ∧ Below w.heap.size w w' := by
  go_enter Tryz.func140, Tryz.ntmps140
  go_wp2_with (go_at_call 150; refine (Tryz.stringslite_Clone s w (by omega)).mono ?_; rintro e w' ⟨rfl, hb⟩)
  go_ret
  exact ⟨rfl, hb⟩
end Go.Proofs.YtjepnddndpmnnaaGreat
namespace Go.Proofs.YtjepnddndpmnnaaGreat
open Go.RowKit Go.Maps
set_option maxRecDepth 100000

/-- A text cut at its first closing brace. -/
def cutAt (l : List UInt8) : List UInt8 × List UInt8 × Bool :=
  match l.dropWhile noEnd with
  | [] => (l, [], false)
  | _ :: b => (l.takeWhile noEnd, b, true)

theorem noEnd_iff (c : UInt8) : noEnd c = !(c == 125) := by
  unfold noEnd
  rw [Bool.eq_iff_iff]
  simp
  constructor
  · intro h hc; subst hc; exact h rfl
  · intro h hc; exact h (UInt8.toNat_inj.1 (by rw [show (125 : UInt8).toNat = 125 from rfl]; omega))

theorem index_none {l : List UInt8} (h : l.dropWhile noEnd = []) : Lib.indexByte l 125 = -1 := by
  induction l with
  | nil => rfl
  | cons c t ih =>
    rw [List.dropWhile_cons] at h
    split at h
    · rename_i hc
      have hc' : (c == 125) = false := by rw [noEnd_iff] at hc; simpa using hc
      simp only [Lib.indexByte, hc', ih h]
      rfl
    · cases h
theorem index_some {l b : List UInt8} {c : UInt8} (h : l.dropWhile noEnd = c :: b) : Lib.indexByte l 125 = ((l.takeWhile noEnd).length : Int) := by
  induction l with
  | nil => cases h
  | cons d t ih =>
    rw [List.dropWhile_cons] at h
    rw [List.takeWhile_cons]
    split at h
    · rename_i hc
      have hc' : (d == 125) = false := by rw [noEnd_iff] at hc; simpa using hc
      have e := ih h
      simp only [Lib.indexByte, hc', e]
      rw [if_neg (by simp), if_neg (by simp), if_pos hc]
      simp
    · rename_i hc
      have hc' : (d == 125) = true := by rw [noEnd_iff] at hc; simpa using hc
      simp only [Lib.indexByte, hc']
      rw [if_pos trivial, if_neg hc]
      rfl
theorem parts_len {l b : List UInt8} {c : UInt8} (h : l.dropWhile noEnd = c :: b) : (l.takeWhile noEnd).length + 1 + b.length = l.length := by
  have := congrArg List.length (List.takeWhile_append_dropWhile (p := noEnd) (l := l))
  rw [h, List.length_append, List.length_cons] at this
  omega
theorem parts_eq {l b : List UInt8} {c : UInt8} (h : l.dropWhile noEnd = c :: b) : l = l.takeWhile noEnd ++ c :: b := by rw [← h]; exact List.takeWhile_append_dropWhile.symm
theorem parts_take {l b : List UInt8} {c : UInt8} (h : l.dropWhile noEnd = c :: b) : l.take (l.takeWhile noEnd).length = l.takeWhile noEnd := by
  have e := parts_eq h
  generalize l.takeWhile noEnd = a at *
  subst e
  simp
theorem parts_drop {l b : List UInt8} {c : UInt8} (h : l.dropWhile noEnd = c :: b) : l.drop ((l.takeWhile noEnd).length + 1) = b := by
  have e := parts_eq h
  generalize l.takeWhile noEnd = a at *
  subst e
  rw [List.drop_append]
  simp

theorem index_any (s : ByteArray) (w : World) :
    Calls Tryz.prog 178 #[.string s, .string ⟨#[125]⟩] w fun e w' => e = .returned (.int .i64 (Lib.indexByte s.data.toList 125)) ∧ w = w' := by
  cases hE : ([125] == s.toList)
  · have hE2 : ¬ ([125] = s.toList) := by simpa using hE
    go_enter Tryz.func178, Tryz.ntmps178
    go_wp2_with (go_at_call 182; refine (Tryz.stringslite_IndexByte s _ _).mono ?_; rintro e w' ⟨rfl, rfl⟩)
    go_ret
    exact ⟨rfl, rfl⟩
  · have hE2 : [125] = s.toList := by simpa using hE
    have hI := Lib.hid (show Lib.indexByte s.data.toList 125 = 0 by rw [← Lib.toList_data, ← hE2]; rfl)
    clear hE2
    go_enter Tryz.func178, Tryz.ntmps178
    go_wp2_with (go_at_call 182; refine (Tryz.stringslite_IndexByte s _ _).mono ?_; rintro e w' ⟨rfl, rfl⟩)
    go_ret
    exact ⟨ret_int hI.out.symm, rfl⟩

def CutAtEnd (l : List UInt8) : Ending := .returned (.tuple #[.string ⟨(cutAt l).1.toArray⟩, .string ⟨(cutAt l).2.1.toArray⟩, .bool (cutAt l).2.2])
theorem str_of (s : ByteArray) : (⟨s.data.toList.toArray⟩ : ByteArray) = s := rfl

set_option maxHeartbeats 400000 in
theorem lcut_any (s : ByteArray) (w : World) (hm : s.size ≤ 140737488355328) :
    Calls Tryz.prog 174 #[.string s, .string ⟨#[125]⟩] w fun e w' => e = CutAtEnd s.data.toList ∧ ∃ n, w' = w.drewN n := by
  have hl : s.data.toList.length = s.size := by simp
  cases hd : s.data.toList.dropWhile noEnd with
  | nil =>
    have hi := Lib.hid (index_none hd)
    have hE : CutAtEnd s.data.toList = .returned (.tuple #[.string s, .string ⟨#[]⟩, .bool false]) := by
      unfold CutAtEnd cutAt
      rw [hd]
    rw [hE]
    clear hE hd hl
    go_enter Tryz.func174, Tryz.ntmps174
    go_wp2_with (go_at_call 178; refine (index_any s _).mono ?_; rintro e w' ⟨rfl, rfl⟩; rw [hi.out])
    go_ret3
    exact ⟨rfl, 0, rfl⟩
  | cons c b =>
    have hi := Lib.hid (index_some hd)
    have hlen := parts_len hd
    have hE : CutAtEnd s.data.toList = .returned (.tuple #[.string (s.extract 0 (s.data.toList.takeWhile noEnd).length), .string (s.extract ((s.data.toList.takeWhile noEnd).length + 1) s.size), .bool true]) := by
      have p1 : s.extract 0 (s.data.toList.takeWhile noEnd).length = ⟨(s.data.toList.takeWhile noEnd).toArray⟩ := by
        apply ByteArray.ext
        apply Array.toList_inj.1
        rw [show (s.extract 0 (s.data.toList.takeWhile noEnd).length).data.toList = s.data.toList.take (s.data.toList.takeWhile noEnd).length from by simp, parts_take hd]
      have p2 : s.extract ((s.data.toList.takeWhile noEnd).length + 1) s.size = ⟨b.toArray⟩ := by
        apply ByteArray.ext
        apply Array.toList_inj.1
        rw [show (s.extract ((s.data.toList.takeWhile noEnd).length + 1) s.size).data.toList = s.data.toList.drop ((s.data.toList.takeWhile noEnd).length + 1) from extract_all _ _, parts_drop hd]
      rw [p1, p2]
      unfold CutAtEnd cutAt
      rw [hd]
    rw [hE]
    clear hE
    generalize (s.data.toList.takeWhile noEnd).length = i at *
    have c1 : (0 : Int) ≤ ↑i := by omega
    have c2 : (↑i : Int) ≤ ↑s.size := by omega
    have c3 : (0 : Int) ≤ ↑i + 1 := by omega
    have c4 : (↑i + 1 : Int) ≤ ↑s.size := by omega
    clear hd hl hlen
    go_enter Tryz.func174, Tryz.ntmps174
    go_wp2_with (go_at_call 178; refine (index_any s _).mono ?_; rintro e w' ⟨rfl, rfl⟩; rw [hi.out])
    go_region
    go_wp2
    go_ret3
    exact ⟨rfl, 1, rfl⟩
end Go.Proofs.YtjepnddndpmnnaaGreat
