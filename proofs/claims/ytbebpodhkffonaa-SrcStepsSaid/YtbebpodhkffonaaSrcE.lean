/-
  behind and Place: a place is a complex number of two whole numbers.
-/
import Derived.Test.YtbebpodhkffonaaSrcA
import Derived.Test.YtbebpodhkffonaaFlt
namespace Go.Proofs.Ytbebpodhkffonaa
open Go.RowKit

def bhL (l : Nat) (b : Int) : Nat := if b = 10 then l + 1 else l
def bhC (c : Nat) (b : Int) : Nat := if b = 10 then 1 else if 128 ≤ b ∧ b ≤ 191 then c else c + 1
def plV (l c : Nat) : Value := .complex .f64 (fW l) (fW c)

theorem pl_end {l' c' l c : Nat} (h1 : l' = l) (h2 : c' = c) : Ending.returned (.complex .f64 (fW l') (fW c')) = .returned (plV l c) := by subst h1 h2; rfl
theorem pl_end1 {l' l c : Nat} (h1 : l' = l) (h2 : 1 = c) : Ending.returned (.complex .f64 (fW l') 4607182418800017408) = .returned (plV l c) := by subst h1 h2; rw [← word_one]; rfl
set_option maxHeartbeats 400000 in
theorem behind_any (l c : Nat) (b : Int) (w : World) (hl : l ≠ 0) (hc : c ≠ 0) (hl1 : l + 1 < 2 ^ 53) (hc1 : c + 1 < 2 ^ 53) :
    Calls Try.prog 29 #[.complex .f64 (fW l) (fW c), .int .u8 b] w fun e w' => e = .returned (plV (bhL l b) (bhC c b)) ∧ w = w' := by
  have a1 := add_word l 1 hl (by decide) hl1
  have a2 := add_word c 1 hc (by decide) hc1
  have a3 := add_zero_word l hl (by omega)
  rw [word_one] at a1 a2
  have r1 := fun w : World => run_float_arith (P := Try.prog) w .add 52 .f64 (fW l) 4607182418800017408 (fW (l + 1)) a1
  have r2 := fun w : World => run_complex_sum (P := Try.prog) w .add (.inl rfl) 50 .f64 (fW l) (fW c) 0 4607182418800017408 (fW l) (fW (c + 1)) (by unfold cSumBits; rw [a3, a2]; rfl)
  clear a1 a2 a3
  go_enter Try.func29, Try.ntmps29
  go_wp2
  all_goals go_ret
  · exact ⟨pl_end1 (by unfold bhL; rw [if_pos (by simpa using ‹(b == 10) = true›)]) (by unfold bhC; rw [if_pos (by simpa using ‹(b == 10) = true›)]), rfl⟩
  all_goals have hb : ¬ b = 10 := by simpa using ‹(b == 10) = false›
  · exact ⟨pl_end (by unfold bhL; rw [if_neg hb]) (by unfold bhC; rw [if_neg hb, if_pos (by omega)]), rfl⟩
  · exact ⟨pl_end (by unfold bhL; rw [if_neg hb]) (by unfold bhC; rw [if_neg hb, if_neg (by omega)]), rfl⟩
  · exact ⟨pl_end (by unfold bhL; rw [if_neg hb]) (by unfold bhC; rw [if_neg hb, if_neg (by omega)]), rfl⟩

def plcStep (p : Nat × Nat) (b : UInt8) : Nat × Nat := (bhL p.1 b.toNat, bhC p.2 b.toNat)
def plc (l : List UInt8) : Nat × Nat := l.foldl plcStep (1, 1)
theorem plc_snoc (l : List UInt8) (b : UInt8) : plc (l ++ [b]) = plcStep (plc l) b := by simp [plc]
theorem plc_bd (l : List UInt8) : (plc l).1 ≠ 0 ∧ (plc l).2 ≠ 0 ∧ (plc l).1 ≤ l.length + 1 ∧ (plc l).2 ≤ l.length + 1 := by
  suffices h : ∀ (l : List UInt8) (p : Nat × Nat) (n : Nat), p.1 ≠ 0 → p.2 ≠ 0 → p.1 ≤ n + 1 → p.2 ≤ n + 1 → (l.foldl plcStep p).1 ≠ 0 ∧ (l.foldl plcStep p).2 ≠ 0 ∧ (l.foldl plcStep p).1 ≤ l.length + n + 1 ∧ (l.foldl plcStep p).2 ≤ l.length + n + 1 from by
    have := h l (1, 1) 0 (by decide) (by decide) (by decide) (by decide)
    simpa [plc] using this
  intro l
  induction l with
  | nil => intro p n h1 h2 h3 h4; exact ⟨h1, h2, by simpa using h3, by simpa using h4⟩
  | cons b l ih =>
    intro p n h1 h2 h3 h4
    have := ih (plcStep p b) (n + 1) (by simp only [plcStep, bhL]; split <;> omega) (by simp only [plcStep, bhC]; split <;> (try split) <;> omega) (by simp only [plcStep, bhL]; split <;> omega) (by simp only [plcStep, bhC]; split <;> (try split) <;> omega)
    simp only [List.foldl_cons, List.length_cons]
    exact ⟨this.1, this.2.1, by omega, by omega⟩
theorem take_snoc (s : ByteArray) (k : Nat) (h : k < s.size) : s.data.toList.take (k + 1) = s.data.toList.take k ++ [s[k]] := by
  rw [List.take_succ_eq_append_getElem (by simpa using h)]; rfl

theorem place_bad (s : ByteArray) (off : Int) (w : World) (h : off < 0 ∨ (s.size : Int) < off) :
    Calls Try.prog 22 #[.string s, .int .i64 off] w fun e w' => e = .returned (.tuple #[.int .i64 0, .int .i64 0, .int .i64 1]) ∧ w = w' := by
  by_cases h0 : off < 0
  · go_enter Try.func22, Try.ntmps22
    go_wp2
    go_ret3
    exact ⟨rfl, rfl⟩
  · have h1 : (s.size : Int) < off := by omega
    have h2 : 0 ≤ off := by omega
    clear h h0
    go_enter Try.func22, Try.ntmps22
    go_wp2
    go_ret3
    exact ⟨rfl, rfl⟩

set_option maxHeartbeats 400000 in
theorem place_any (s : ByteArray) (n : Nat) (w : World) (hs : s.size ≤ 140737488355328) (hn : n ≤ s.size) :
    Calls Try.prog 22 #[.string s, .int .i64 n] w fun e w' => e = .returned (.tuple #[.int .i64 (plc (s.data.toList.take n)).1, .int .i64 (plc (s.data.toList.take n)).2, .int .i64 0]) ∧ w = w' := by
  have h0 : (0 : Int) ≤ (n : Int) := by omega
  have h1 : ¬ (s.size : Int) < (n : Int) := by omega
  have hd0 : decide ((n : Int) < 0) = false := by simp
  go_enter Try.func22, Try.ntmps22
  go_wp2
  go_loop [7, 18] (fun p i => ∃ k l c : Nat, k ≤ n ∧ i = .int .i64 k ∧ p = .complex .f64 (fW l) (fW c) ∧ Hid (plc (s.data.toList.take k) = (l, c))) (fun _ i => n - (intOf i).toNat)
  case atStart => exact ⟨0, 1, 1, Nat.zero_le _, rfl, by rw [word_one], Lib.hid rfl⟩
  case round =>
    obtain ⟨k, l, c, hk, rfl, rfl, HP⟩ := hrel
    have hbd := plc_bd (s.data.toList.take k)
    have hlen : (s.data.toList.take k).length ≤ k := List.length_take_le _ _
    rw [HP.out] at hbd
    obtain ⟨b1, b2, b3, b4⟩ := hbd
    simp only at b1 b2 b3 b4
    by_cases hlt : k < n
    · have hts := take_snoc s k (by omega)
      have hps := plc_snoc (s.data.toList.take k) s[k]
      rw [← hts, HP.out] at hps
      have HS := Lib.hid hps
      clear hts hps
      go_wp2_with (go_at_call 29; refine (behind_any l c _ _ b1 b2 (by omega) (by omega)).mono ?_; rintro e w' ⟨rfl, rfl⟩)
      go_round
      case rel => exact ⟨k + 1, _, _, by omega, by go_num, rfl, HS⟩
      case measure => simp [intOf]; omega
    · have e : k = n := by omega
      subst e
      have i1 := int_word l b1 (by omega)
      have i2 := int_word c b2 (by omega)
      have r1 := fun w : World => run_convert_float_int (P := Try.prog) w 52 3 .f64 .i64 (fW l) (l : Int) rfl Try.underlying3 i1
      have r2 := fun w : World => run_convert_float_int (P := Try.prog) w 52 3 .f64 .i64 (fW c) (c : Int) rfl Try.underlying3 i2
      clear i1 i2
      go_wp2
      go_ret3
      rw [HP.out]
      exact ⟨rfl, rfl⟩
end Go.Proofs.Ytbebpodhkffonaa
