/-
  names: which bytes a name may have; Local, Space of the program.
-/
import Derived.Test.YtmbjeagmnjkemaaSrcD
import Derived.Test.YtmbjeagmnjkemaaSrcF
import Derived.Test.YtmbjeagmnjkemaaNamesP
import Derived.Test.YtmbjeagmnjkemaaRead
namespace Go.Proofs.Ytmbjeagmnjkemaa
open Go.RowKit Go.Maps
set_option maxRecDepth 100000

theorem begins_any (b : Int) (w : World) :
    Calls Try.prog 34 #[.int .u8 b] w fun e w' => e = .returned (.bool (firstB b)) ∧ w = w' := by
  go_enter Try.func34, Try.ntmps34
  go_wp2
  all_goals go_ret
  all_goals refine ⟨ret_bool ?_, rfl⟩
  all_goals simp only [firstB]
  all_goals (rw [Bool.eq_iff_iff]; simp; try omega)

theorem later_of_first {b : Int} (h : firstB b = true) : laterB b = true := by
  unfold firstB at h
  unfold laterB
  rw [decide_eq_true_iff] at h ⊢
  omega
theorem later_eq (b : Int) : laterB b = (firstB b || decide ((48 ≤ b ∧ b ≤ 57) ∨ b = 45 ∨ b = 46)) := by
  unfold firstB laterB
  rw [Bool.eq_iff_iff]
  simp
  omega

theorem inloc_any (b : Int) (w : World) :
    Calls Try.prog 35 #[.int .u8 b] w fun e w' => e = .returned (.bool (laterB b)) ∧ w = w' := by
  cases hf : firstB b
  all_goals have HF := Lib.hid hf
  all_goals clear hf
  all_goals
    go_enter Try.func35, Try.ntmps35
    go_wp2_with (go_at_call 34; refine (begins_any _ _).mono ?_; rintro e w' ⟨rfl, rfl⟩; rw [HF.out])
  all_goals go_ret
  all_goals refine ⟨ret_bool ?_, rfl⟩
  all_goals rw [later_eq]
  all_goals first
    | (rw [HF.out]; simp only [Bool.true_or]; done)
    | (rw [HF.out, Bool.eq_iff_iff]; simp; try omega)
    | decide

theorem local_le {l : List UInt8} (h : localL l = true) : 1 ≤ l.length ∧ l.length ≤ 16 ∧ l.all (fun d => laterB (d.toNat : Int)) = true := by
  have h1 := local_len h
  cases l with
  | nil => cases h
  | cons c t =>
    simp only [localL, Bool.and_eq_true, decide_eq_true_eq] at h
    refine ⟨h1.1, h1.2, ?_⟩
    rw [List.all_cons, later_of_first h.1.2, h.2]
    rfl
theorem local_eq (s : ByteArray) (h : 0 < s.size) (h16 : s.size ≤ 16) : localL s.data.toList = (firstB (s[0].toNat : Int) && s.data.toList.all (fun d => laterB (d.toNat : Int))) := by
  have hl : s.data.toList.length = s.size := by simp
  have he := bytes_cons s h
  rw [he] at hl ⊢
  generalize List.drop 1 s.data.toList = t at *
  simp only [List.length_cons] at hl
  simp only [localL, List.all_cons]
  rw [decide_eq_true (show t.length < 16 by omega), Bool.true_and]
  cases hf : firstB (s[0].toNat : Int)
  · rfl
  · rw [later_of_first hf, Bool.true_and, Bool.true_and]
theorem local_long (s : ByteArray) (h : s.size = 0 ∨ 16 < s.size) : localL s.data.toList = false := by
  have hl : s.data.toList.length = s.size := by simp
  cases hb : localL s.data.toList with
  | false => rfl
  | true => have := local_len hb; omega
theorem all_snoc {p : UInt8 → Bool} {s : ByteArray} {k : Nat} (h : k < s.size) (ha : (s.data.toList.take k).all p = true) : (s.data.toList.take (k + 1)).all p = p s[k] := by
  rw [take_snoc s k h, List.all_append, ha]
  simp
theorem all_break {p : UInt8 → Bool} {s : ByteArray} {k : Nat} (h : k < s.size) (hp : p s[k] = false) : s.data.toList.all p = false := by
  cases ha : s.data.toList.all p with
  | false => rfl
  | true =>
    rw [List.all_eq_true] at ha
    have := ha s[k] (by simp [ByteArray.getElem_eq_getElem_data])
    rw [hp] at this
    cases this

theorem str_ne {s : ByteArray} (h : ¬ s.size = 0) : s.toList.isEmpty = false := by
  rw [Lib.toList_data]
  cases hl : s.data.toList with
  | nil => have : s.data.toList.length = s.size := by simp
           rw [hl] at this
           simp at this
           omega
  | cons c t => rfl
theorem str_ne2 {s : ByteArray} (h : ¬ s.size = 0) : ¬ s.toList = [] := by
  have := str_ne h
  intro hc
  rw [hc] at this
  cases this

set_option maxHeartbeats 1000000 in
theorem local_any (s : ByteArray) (w : World) (hm : s.size ≤ 140737488355328) :
    Calls Try.prog 23 #[.string s] w fun e w' => e = .returned (.bool (localL s.data.toList)) ∧ w = w' := by
  by_cases h0 : s.size = 0
  · rw [local_long s (.inl h0)]
    have hs : s = ⟨#[]⟩ := ByteArray.ext (Array.eq_empty_of_size_eq_zero h0)
    subst hs
    go_enter Try.func23, Try.ntmps23
    go_wp2
    go_ret
    exact ⟨rfl, rfl⟩
  have hn1 := str_ne h0
  have hn2 := str_ne2 h0
  by_cases h16 : 16 < s.size
  · rw [local_long s (.inr h16)]
    go_enter Try.func23, Try.ntmps23
    go_wp2
    go_ret
    exact ⟨rfl, rfl⟩
  have hp : 0 < s.size := by omega
  have hR := local_eq s hp (by omega)
  generalize hgl : localL s.data.toList = R at *
  have HR := Lib.hid hR
  clear hR hgl h0
  rcases Bool.eq_false_or_eq_true (firstB (s[0].toNat : Int)) with hf | hf
  case' inl => have HF := Lib.hid hf
  case' inr => have HF := Lib.hid hf
  all_goals clear hf
  case inr =>
    go_enter Try.func23, Try.ntmps23
    go_wp2_with (go_at_call 34; refine (begins_any _ _).mono ?_; rintro e w' ⟨rfl, rfl⟩; rw [HF.out])
    go_ret
    refine ⟨ret_bool ?_, rfl⟩
    rw [HR.out, HF.out]
    rfl
  case inl =>
    go_enter Try.func23, Try.ntmps23
    go_wp2_with (go_at_call 34; refine (begins_any _ _).mono ?_; rintro e w' ⟨rfl, rfl⟩; rw [HF.out])
    go_loop [19] (fun i => ∃ k : Nat, k ≤ s.size ∧ i = .int .i64 k ∧ Hid ((s.data.toList.take k).all (fun d => laterB (d.toNat : Int)) = true)) (fun i => s.size - (intOf i).toNat)
    case atStart => exact ⟨0, Nat.zero_le _, rfl, Lib.hid rfl⟩
    case round =>
      obtain ⟨k, hk, rfl, HK⟩ := hrel
      by_cases hlt : k < s.size
      · rcases Bool.eq_false_or_eq_true (laterB (s[k].toNat : Int)) with hl | hl
        case' inl => have HL := Lib.hid hl
        case' inr => have HL := Lib.hid hl
        all_goals clear hl
        case inr =>
          go_wp2_with (go_at_call 35; refine (inloc_any _ _).mono ?_; rintro e w' ⟨rfl, rfl⟩; rw [HL.out])
          go_ret
          refine ⟨ret_bool ?_, rfl⟩
          rw [HR.out, all_break hlt HL.out, Bool.and_false]
        case inl =>
          go_wp2_with (go_at_call 35; refine (inloc_any _ _).mono ?_; rintro e w' ⟨rfl, rfl⟩; rw [HL.out])
          go_round
          case rel => exact ⟨k + 1, by omega, by go_num, Lib.hid ((all_snoc hlt HK.out).trans HL.out)⟩
          case measure => simp [intOf]; omega
      · go_wp2
        go_ret
        refine ⟨ret_bool ?_, rfl⟩
        have hK := HK.out
        rw [List.take_of_length_le (by simp; omega)] at hK
        rw [HR.out, HF.out, hK]
        rfl
end Go.Proofs.Ytmbjeagmnjkemaa
