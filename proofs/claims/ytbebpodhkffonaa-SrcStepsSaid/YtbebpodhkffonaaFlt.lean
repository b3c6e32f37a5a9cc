/-
  Whole numbers below 2^53 as float64: what adding and cutting them gives.
-/
import Derived.Laws.ComplexArith
import Derived.Laws.FloatArith
namespace Go.Proofs.Ytbebpodhkffonaa
open Ieee

def B52 : Nat := 2 ^ 52
theorem B52_eq : 2 ^ 52 = B52 := rfl
theorem B53_eq : 2 ^ 53 = 2 * B52 := rfl
theorem B63_eq : 2 ^ 63 = 2048 * B52 := rfl
theorem B52_pos : 0 < B52 := Nat.two_pow_pos 52
/-- The word of a whole number. -/
def fW (n : Nat) : Nat := (n.log2 + 1022) * B52 + n * 2 ^ (52 - n.log2)

theorem log2_bounds {n : Nat} (h : n ≠ 0) : 2 ^ n.log2 ≤ n ∧ n < 2 ^ (n.log2 + 1) := (Nat.log2_eq_iff h).1 rfl
theorem log2_shift {n : Nat} (h : n ≠ 0) (k : Nat) : (n * 2 ^ k).log2 = n.log2 + k := by
  have hb := log2_bounds h
  have hp : 0 < 2 ^ k := Nat.two_pow_pos k
  rw [Nat.log2_eq_iff (Nat.mul_ne_zero h (by omega))]
  rw [Nat.pow_add, show n.log2 + k + 1 = (n.log2 + 1) + k from by omega, Nat.pow_add 2 (n.log2 + 1) k]
  exact ⟨Nat.mul_le_mul_right _ hb.1, Nat.mul_lt_mul_of_pos_right hb.2 hp⟩
theorem log2_le {n : Nat} (h : n ≠ 0) (h53 : n < 2 ^ 53) : n.log2 ≤ 52 := by
  have hb := log2_bounds h
  have : n.log2 < 53 := (Nat.pow_lt_pow_iff_right (by decide)).1 (Nat.lt_of_le_of_lt hb.1 h53)
  omega
theorem mant {n : Nat} (h : n ≠ 0) (h53 : n < 2 ^ 53) : B52 ≤ n * 2 ^ (52 - n.log2) ∧ n * 2 ^ (52 - n.log2) < 2 * B52 := by
  rw [← B53_eq, ← B52_eq]
  have hb := log2_bounds h
  have hl := log2_le h h53
  have hp : 0 < 2 ^ (52 - n.log2) := Nat.two_pow_pos _
  have e1 : 2 ^ 52 = 2 ^ n.log2 * 2 ^ (52 - n.log2) := by rw [← Nat.pow_add]; congr 1; omega
  have e2 : 2 ^ 53 = 2 ^ (n.log2 + 1) * 2 ^ (52 - n.log2) := by rw [← Nat.pow_add]; congr 1; omega
  rw [e1, e2]
  exact ⟨Nat.mul_le_mul_right _ hb.1, Nat.mul_lt_mul_of_pos_right hb.2 hp⟩

theorem cut_none (way : Toward) (hw : way = .even ∨ way = .zero) (n : Nat) : way.cut false n 0 = n := by
  rcases hw with rfl | rfl <;> simp [Toward.cut, Nat.mod_one]
theorem cut_exact (way : Toward) (hw : way = .even ∨ way = .zero) (m d : Nat) (hm : m ≠ 0) : way.cut false (m * 2 ^ d) d = m := by
  have hl := log2_shift hm d
  have hp : 0 < 2 ^ d := Nat.two_pow_pos d
  have hmin : min d ((m * 2 ^ d).log2 + 2) = d := by omega
  unfold Toward.cut
  simp only [hmin, Nat.one_shiftLeft]
  rw [Nat.mul_div_cancel _ hp, Nat.mul_mod_left]
  rcases hw with rfl | rfl <;> simp

theorem least : Ieee.double.leastPlace = -1074 := by decide

theorem nearest_exact (N k : Nat) (hN : N ≠ 0) (h53 : N < 2 ^ 53) : Ieee.double.nearest false (N * 2 ^ k) (-(k : Int)) = fW N := by
  have hp : 0 < 2 ^ k := Nat.two_pow_pos k
  have hl := log2_le hN h53
  have hm := mant hN h53
  unfold Format.nearest
  rw [if_neg (Nat.mul_ne_zero hN (by omega)), log2_shift hN k, least]
  have hlast : max (-(k : Int) + ((N.log2 + k : Nat) : Int) - (Ieee.double.fractionBits : Int)) (-1074) = (N.log2 : Int) - 52 := by
    show max (-(k : Int) + ((N.log2 + k : Nat) : Int) - 52) (-1074) = _
    omega
  simp only [hlast]
  have hkept : Toward.even.cut false ((N * 2 ^ k) <<< (-(k : Int) - ((N.log2 : Int) - 52)).toNat) ((N.log2 : Int) - 52 - -(k : Int)).toNat = N * 2 ^ (52 - N.log2) := by
    rw [Nat.shiftLeft_eq]
    by_cases h : N.log2 + k ≤ 52
    · rw [show ((N.log2 : Int) - 52 - -(k : Int)).toNat = 0 from by omega, cut_none _ (.inl rfl), Nat.mul_assoc, ← Nat.pow_add]
      congr 2
      omega
    · rw [show (-(k : Int) - ((N.log2 : Int) - 52)).toNat = 0 from by omega, Nat.pow_zero, Nat.mul_one]
      have e : N * 2 ^ k = N * 2 ^ (52 - N.log2) * 2 ^ ((N.log2 : Int) - 52 - -(k : Int)).toNat := by
        rw [Nat.mul_assoc, ← Nat.pow_add]
        congr 2
        omega
      rw [e]
      exact cut_exact _ (.inl rfl) _ _ (by omega)
  rw [hkept]
  unfold Format.word fW
  have hinf : Ieee.double.infRung = 2047 * B52 := rfl
  have hbin : Ieee.double.binade = B52 := rfl
  rw [hinf, hbin, show ((N.log2 : Int) - 52 - -1074).toNat = N.log2 + 1022 from by omega]
  simp only [Bool.false_eq_true, if_false]
  apply Nat.min_eq_left
  have h1 : (N.log2 + 1022) * B52 ≤ 1074 * B52 := Nat.mul_le_mul_right B52 (by omega)
  have h2 := B52_pos
  generalize B52 = B at *
  omega

theorem read_word (n : Nat) (h : n ≠ 0) (h53 : n < 2 ^ 53) : Ieee.double.read (fW n) = .number false (n * 2 ^ (52 - n.log2)) ((n.log2 : Int) - 52) := by
  have hl := log2_le h h53
  have hm := mant h h53
  have hinf : Ieee.double.infRung = 2047 * B52 := rfl
  have hbin : Ieee.double.binade = B52 := rfl
  have hsg : Ieee.double.signWeight = 2048 * B52 := rfl
  have hpos := B52_pos
  unfold fW Format.read
  rw [hsg, hbin, hinf, least]
  have h1 : (n.log2 + 1022) * B52 ≤ 1074 * B52 := Nat.mul_le_mul_right B52 (by omega)
  have h2 : 1022 * B52 ≤ (n.log2 + 1022) * B52 := Nat.mul_le_mul_right B52 (by omega)
  generalize hM : n * 2 ^ (52 - n.log2) = M at *
  clear hsg hbin hinf h53
  generalize B52 = B at *
  have hlt : (n.log2 + 1022) * B + M < 2048 * B := by generalize (n.log2 + 1022) * B = A at *; omega
  have hdiv : ((n.log2 + 1022) * B + M) / B = n.log2 + 1023 := by
    rw [Nat.add_comm, Nat.add_mul_div_right _ _ hpos]
    have : M / B = 1 := by
      rw [show M = (M - B) + 1 * B from by omega, Nat.add_mul_div_right _ _ hpos, Nat.div_eq_of_lt (by omega)]
    omega
  have hmod : ((n.log2 + 1022) * B + M) % B = M - B := by
    rw [Nat.add_comm, Nat.add_mul_mod_self_right]
    rw [show M = (M - B) + 1 * B from by omega, Nat.add_mul_mod_self_right, Nat.mod_eq_of_lt (by omega)]
    omega
  have hlo : ¬ (n.log2 + 1022) * B + M < B := by generalize (n.log2 + 1022) * B = A at *; omega
  have hhi : (n.log2 + 1022) * B + M < 2047 * B := by generalize (n.log2 + 1022) * B = A at *; omega
  simp only [Nat.mod_eq_of_lt hlt, Nat.div_eq_of_lt hlt, hdiv, hmod, if_neg hlo, if_pos hhi]
  have e1 : B + (M - B) = M := by omega
  have e2 : (-1074 : Int) + ((n.log2 + 1023 - 1 : Nat) : Int) = (n.log2 : Int) - 52 := by omega
  rw [e1, e2]
  rfl

theorem add_word (n m : Nat) (hn : n ≠ 0) (hm : m ≠ 0) (h : n + m < 2 ^ 53) : floatBits .add .f64 (fW n) (fW m) = some (fW (n + m)) := by
  show Ieee.double.add (fW n) (fW m) = _
  have ln := log2_le hn (by omega)
  have lm := log2_le hm (by omega)
  unfold Format.add
  rw [read_word n hn (by omega), read_word m hm (by omega)]
  simp only [Datum.sum, Option.map_some, Option.some.injEq]
  generalize hk : min ((n.log2 : Int) - 52) ((m.log2 : Int) - 52) = base
  obtain ⟨k, rfl⟩ : ∃ k : Nat, base = -(k : Int) := ⟨(-base).toNat, by omega⟩
  have e : ∀ a : Nat, a ≠ 0 → a.log2 ≤ 52 → -(k : Int) ≤ (a.log2 : Int) - 52 → signed false (a * 2 ^ (52 - a.log2)) (((a.log2 : Int) - 52 - -(k : Int)).toNat) = ((a * 2 ^ k : Nat) : Int) := by
    intro a _ ha hk'
    unfold signed
    simp only [Bool.false_eq_true, if_false]
    rw [Nat.shiftLeft_eq, Nat.mul_assoc, ← Nat.pow_add]
    congr 3
    omega
  rw [e n hn ln (by omega), e m hm lm (by omega)]
  have hp : 0 < 2 ^ k := Nat.two_pow_pos k
  have hs : ((n * 2 ^ k : Nat) : Int) + ((m * 2 ^ k : Nat) : Int) = (((n + m) * 2 ^ k : Nat) : Int) := by rw [Nat.add_mul]; omega
  rw [hs]
  have hpos : (n + m) * 2 ^ k ≠ 0 := Nat.mul_ne_zero (by omega) (by omega)
  have hfin := nearest_exact (n + m) k (by omega) h
  generalize (n + m) * 2 ^ k = X at *
  rw [if_neg (by omega)]
  have hneg : decide ((X : Int) < 0) = false := by simp
  rw [hneg, Int.natAbs_natCast]
  exact hfin

theorem add_zero_word' (K : Nat) (hK : K = 1074) (n : Nat) (hn : n ≠ 0) (h : n < 2 ^ 53) : floatBits .add .f64 (fW n) 0 = some (fW n) := by
  show Ieee.double.add (fW n) 0 = _
  have ln := log2_le hn h
  unfold Format.add
  have h0 : Ieee.double.read 0 = .number false 0 (-1074) := by decide
  rw [read_word n hn h, h0]
  simp only [Datum.sum, Option.map_some, Option.some.injEq]
  rw [show min ((n.log2 : Int) - 52) (-1074) = -(K : Int) from by omega]
  have e : signed false (n * 2 ^ (52 - n.log2)) (((n.log2 : Int) - 52 - -(K : Int)).toNat) = ((n * 2 ^ K : Nat) : Int) := by
    unfold signed
    simp only [Bool.false_eq_true, if_false]
    rw [Nat.shiftLeft_eq, Nat.mul_assoc, ← Nat.pow_add, show 52 - n.log2 + ((n.log2 : Int) - 52 - -(K : Int)).toNat = K from by omega]
  have e0 : signed false 0 ((-1074 : Int) - -(K : Int)).toNat = 0 := by simp [signed]
  rw [e, e0, Int.add_zero]
  have hp : 0 < 2 ^ K := Nat.two_pow_pos _
  have hpos : n * 2 ^ K ≠ 0 := Nat.mul_ne_zero hn (Nat.ne_of_gt hp)
  have hfin := nearest_exact n K hn h
  generalize n * 2 ^ K = X at *
  rw [if_neg (by omega)]
  have hneg : decide ((X : Int) < 0) = false := by simp
  rw [hneg, Int.natAbs_natCast]
  exact hfin
theorem add_zero_word (n : Nat) (hn : n ≠ 0) (h : n < 2 ^ 53) : floatBits .add .f64 (fW n) 0 = some (fW n) := add_zero_word' 1074 rfl n hn h

theorem toInt_word (n : Nat) (hn : n ≠ 0) (h : n < 2 ^ 53) : (Ieee.double.read (fW n)).toInt .zero = some (n : Int) := by
  have ln := log2_le hn h
  rw [read_word n hn h]
  unfold Datum.toInt Datum.integral
  simp only
  rw [show ((n.log2 : Int) - 52).toNat = 0 from by omega, Nat.shiftLeft_zero, show (-((n.log2 : Int) - 52)).toNat = 52 - n.log2 from by omega, cut_exact _ (.inr rfl) _ _ hn]
  unfold signed
  simp
theorem dec_double (b : Nat) : FloatKind.f64.decode b = Ieee.double.read b := rfl
theorem i64_min_le (n : Nat) : IntKind.i64.min ≤ (n : Int) := by simp [IntKind.min, IntKind.signed, IntKind.bits]
theorem le_i64_max (n : Nat) (h : n < 2 ^ 53) : (n : Int) ≤ IntKind.i64.max := by simp [IntKind.max, IntKind.signed, IntKind.bits]; omega
theorem int_of_word (b : Nat) (n : Int) (e : (Ieee.double.read b).toInt .zero = some n) (h1 : IntKind.i64.min ≤ n) (h2 : n ≤ IntKind.i64.max) : floatToIntVal .f64 b .i64 = some n := by
  unfold floatToIntVal
  rw [dec_double, e]
  exact if_pos ⟨h1, h2⟩
theorem int_word (n : Nat) (hn : n ≠ 0) (h : n < 2 ^ 53) : floatToIntVal .f64 (fW n) .i64 = some (n : Int) :=
  int_of_word (fW n) n (toInt_word n hn h) (i64_min_le n) (le_i64_max n h)

theorem word_one : fW 1 = 4607182418800017408 := by decide
end Go.Proofs.Ytbebpodhkffonaa
