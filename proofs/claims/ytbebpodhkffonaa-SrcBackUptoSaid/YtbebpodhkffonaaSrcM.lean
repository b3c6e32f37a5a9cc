/-
  The walk of SrcBack: characters put one behind the other are read again.
-/
import Derived.Test.YtbebpodhkffonaaSrcI
namespace Go.Proofs.Ytbebpodhkffonaa
open Go.RowKit
set_option maxRecDepth 100000

theorem b8_nat (n : Int) (h0 : 0 ≤ n) (h1 : n < 256) : ((b8 n).toNat : Int) = n := by
  unfold b8
  have e1 : (UInt8.ofNat n.toNat).toNat = n.toNat := UInt8.toNat_ofNat_of_lt' (show n.toNat < 256 by omega)
  rw [e1]; omega

theorem runesGo_put (r : Int) (h : mayB r = true) (out : List Int) (rest : List UInt8) : runesGo (rn0 out) (putL r ++ rest) = runesGo (rn0 (out ++ [r])) rest := by
  have hm : 0 ≤ r ∧ r ≤ 1114111 ∧ (r < 55296 ∨ 57343 < r) := by unfold mayB at h; simpa using h
  obtain ⟨h0, h1, h2⟩ := hm
  unfold putL
  by_cases a : r < 128
  · rw [if_pos a]
    simp only [List.cons_append, List.nil_append, runesGo]
    rw [b8_nat r h0 (by omega), rn_lead0 out r h0 a]
  rw [if_neg a]
  by_cases b : r < 2048
  · rw [if_pos b]
    have hs := rn_lead out (192 + r / 64) 1 128 191 (r / 64) (by simp [stOk]; omega) (by simp [stL]; omega) (by decide) (by simp [stLo]; omega) (by simp [stHi]; omega) (by unfold payI; rw [if_neg (by omega), if_neg (by omega), if_pos (by omega)]; omega)
    have ht := rn_tail 1 128 191 (r / 64) out (128 + r % 64) (by decide) (by decide) (by decide)
    rw [if_pos (by omega), if_pos rfl] at ht
    simp only [List.cons_append, List.nil_append, runesGo]
    rw [b8_nat _ (by omega) (by omega), b8_nat _ (by omega) (by omega), hs]
    simp only [ht]
    rw [show r / 64 * 64 + (128 + r % 64 - 128) = r from by omega]
  rw [if_neg b]
  by_cases c : r < 65536
  · rw [if_pos c]
    obtain ⟨lo, hi, hlo, hhi, hb1, hb2, hr1, hr2⟩ : ∃ lo hi : Int, stLo 0 (224 + r / 4096) = lo ∧ stHi 0 (224 + r / 4096) = hi ∧ 128 ≤ lo ∧ hi ≤ 191 ∧ lo ≤ 128 + r / 64 % 64 ∧ 128 + r / 64 % 64 ≤ hi := by
      refine ⟨_, _, rfl, rfl, ?_⟩
      simp only [stLo, stHi, Int.lt_irrefl, if_false]
      repeat' split
      all_goals omega
    have hs := rn_lead out (224 + r / 4096) 2 lo hi (r / 4096) (by simp [stOk]; omega) (by simp [stL]; omega) (by decide) hlo hhi (by unfold payI; rw [if_neg (by omega), if_neg (by omega), if_neg (by omega), if_pos (by omega)]; omega)
    have ht := rn_tail 2 lo hi (r / 4096) out (128 + r / 64 % 64) (by decide) hb1 hb2
    rw [if_pos (by omega), if_neg (by decide)] at ht
    have ht2 := rn_tail (2 - 1) 128 191 (r / 4096 * 64 + (128 + r / 64 % 64 - 128)) out (128 + r % 64) (by decide) (by decide) (by decide)
    rw [if_pos (by omega), if_pos (by decide)] at ht2
    simp only [List.cons_append, List.nil_append, runesGo]
    rw [b8_nat _ (by omega) (by omega), b8_nat _ (by omega) (by omega), b8_nat _ (by omega) (by omega), hs]
    simp only [ht, ht2]
    rw [show (r / 4096 * 64 + (128 + r / 64 % 64 - 128)) * 64 + (128 + r % 64 - 128) = r from by omega]
  rw [if_neg c]
  obtain ⟨lo, hi, hlo, hhi, hb1, hb2, hr1, hr2⟩ : ∃ lo hi : Int, stLo 0 (240 + r / 262144) = lo ∧ stHi 0 (240 + r / 262144) = hi ∧ 128 ≤ lo ∧ hi ≤ 191 ∧ lo ≤ 128 + r / 4096 % 64 ∧ 128 + r / 4096 % 64 ≤ hi := by
    refine ⟨_, _, rfl, rfl, ?_⟩
    simp only [stLo, stHi, Int.lt_irrefl, if_false]
    repeat' split
    all_goals omega
  have hs := rn_lead out (240 + r / 262144) 3 lo hi (r / 262144) (by simp [stOk]; omega) (by simp [stL]; omega) (by decide) hlo hhi (by unfold payI; rw [if_neg (by omega), if_neg (by omega), if_neg (by omega), if_neg (by omega)]; omega)
  have ht := rn_tail 3 lo hi (r / 262144) out (128 + r / 4096 % 64) (by decide) hb1 hb2
  rw [if_pos (by omega), if_neg (by decide)] at ht
  have ht2 := rn_tail (3 - 1) 128 191 (r / 262144 * 64 + (128 + r / 4096 % 64 - 128)) out (128 + r / 64 % 64) (by decide) (by decide) (by decide)
  rw [if_pos (by omega), if_neg (by decide)] at ht2
  have ht3 := rn_tail (3 - 1 - 1) 128 191 ((r / 262144 * 64 + (128 + r / 4096 % 64 - 128)) * 64 + (128 + r / 64 % 64 - 128)) out (128 + r % 64) (by decide) (by decide) (by decide)
  rw [if_pos (by omega), if_pos (by decide)] at ht3
  simp only [List.cons_append, List.nil_append, runesGo]
  rw [b8_nat _ (by omega) (by omega), b8_nat _ (by omega) (by omega), b8_nat _ (by omega) (by omega), b8_nat _ (by omega) (by omega), hs]
  simp only [ht, ht2, ht3]
  rw [show ((r / 262144 * 64 + (128 + r / 4096 % 64 - 128)) * 64 + (128 + r / 64 % 64 - 128)) * 64 + (128 + r % 64 - 128) = r from by omega]

def putAll (l : List Int) : List UInt8 := l.flatMap putL
theorem putAll_snoc (l : List Int) (r : Int) : putAll (l ++ [r]) = putAll l ++ putL r := by simp [putAll]
theorem runes_putAll (l : List Int) (h : ∀ r ∈ l, mayB r = true) : runesL (putAll l) = some l := by
  suffices hh : ∀ (l : List Int) (out : List Int), (∀ r ∈ l, mayB r = true) → runesGo (rn0 out) (putAll l) = some (out ++ l) from by
    have := hh l [] h
    simpa [runesL] using this
  intro l
  induction l with
  | nil => intro out _; simp [putAll, runesGo, rn0]
  | cons r l ih =>
    intro out h
    have e : putAll (r :: l) = putL r ++ putAll l := by simp [putAll]
    rw [e, runesGo_put r (h r (by simp)), ih _ (fun x hx => h x (by simp [hx]))]
    simp
theorem putL_len (r : Int) : (putL r).length ≤ 4 ∧ 0 < (putL r).length := by
  unfold putL
  repeat' split
  all_goals simp

def mays (l : List Int) : List Int := l.filter mayB
theorem mays_snoc (l : List Int) (r : Int) : mays (l ++ [r]) = if mayB r = true then mays l ++ [r] else mays l := by
  unfold mays
  rw [List.filter_append]
  split <;> simp_all
theorem mays_len (l : List Int) : (mays l).length ≤ l.length := List.length_filter_le _ _

set_option maxHeartbeats 1000000 in
theorem walk_SrcBack (v0 : Value) (xs : List Int) (hlen : xs.length ≤ 1048576) (w : World) (h0 : IRead w v0 xs) :
    Calls Try.prog 6 #[v0] w fun e w' => e = .returned (.bool true) ∧ Below w.heap.size w w' := by
  obtain ⟨A, c, rfl, hA⟩ := h0
  go_enter Try.func6, Try.ntmps6
  go_wp2
  go_loopw [3, 4, 5] (fun t v i wr => ∃ (k : Nat) (s : ByteArray), k ≤ xs.length ∧ i = .int .i64 k ∧ t = .string s ∧ s.size ≤ 4 * k ∧ ORow wr w.heap.size 3 v ((mays (xs.take k)).map iV) ∧ Below w.heap.size w wr ∧ Hid (s.data.toList = putAll (mays (xs.take k)))) (fun _ _ i _ => xs.length - (intOf i).toNat)
  case atStart => exact ⟨0, ⟨#[]⟩, Nat.zero_le _, rfl, rfl, by decide, ORow.nil _ _ _, Below.refl _ _, Lib.hid rfl⟩
  case round =>
    obtain ⟨k, s, hk, rfl, rfl, hsz, hown, hbel, HS⟩ := hrel
    by_cases hlt : k < xs.length
    · obtain ⟨ad, rfl, hca⟩ := hA (by omega)
      have hcw := hca k hlt
      have hlb := cell_lt hcw
      have hcr : wr.cell? (ad.add k) = some (.int .i64 xs[k]) := (hbel.cell hlb).trans hcw
      have HT := Lib.hid (show xs.take (k + 1) = xs.take k ++ [xs[k]] from List.take_succ_eq_append_getElem hlt)
      have hml := mays_len (xs.take k)
      have htl : (xs.take k).length ≤ k := List.length_take_le _ _
      clear hA
      have HA := Lib.hid hca
      clear hca
      go_wp2_with fail
      refine (put_any _ _).mono ?_
      rintro e w1 ⟨rfl, hb1⟩
      have hbs := hbel.size
      have hown1 := hown.below hb1 (fun g hg => (World.ownsRow.lt hown g hg).2)
      have hbel1 := hbel.trans (hb1.mono hbs)
      have hcr1 : w1.cell? (ad.add k) = some (.int .i64 xs[k]) := (hb1.cell (cell_lt hcr)).trans hcr
      clear hb1 hown hbel hcr
      have hbs1 := hbel1.size
      by_cases hm : mayB xs[k] = true
      · have HM := Lib.hid hm
        have hput : putS xs[k] = ⟨(putL xs[k]).toArray⟩ := by unfold putS; rw [if_pos hm]
        have hpl := putL_len xs[k]
        have hps : (putS xs[k]).size ≤ 4 := by rw [hput]; simp [ByteArray.size]; omega
        have hpne : (putS xs[k]).toList = (putL xs[k]) := by rw [hput]; simp [ByteArray.toList_eq]
        have HP := Lib.hid hput
        generalize putS xs[k] = X at *
        clear hput hm
        rw [HM.out]
        go_wp2_with fail
        refine (may_any _ _).mono ?_
        rintro e w' ⟨rfl, rfl⟩
        rw [HM.out]
        go_wp2_with (first
          | (at_builtin; refine wp_app1b rfl _ _ 31 rfl w.heap.size 3 (.int .i64 0) 8 Try.underlying31 Try.info3 rfl _ _ _ rfl (by exact hown1) rfl _ rfl (by simp [maxLen]; omega) (by simp; omega) hbs1 ?_; intro v2 w2 hown2 hb2))
        have hrow : ORow w2 w.heap.size 3 v2 ((mays (xs.take (k + 1))).map iV) := by
          rw [HT.out, mays_snoc, if_pos HM.out, List.map_append]
          exact hown2
        have hbel2 := hbel1.trans hb2
        have hdat : (s ++ X).data.toList = putAll (mays (xs.take (k + 1))) := by
          rw [HT.out, mays_snoc, if_pos HM.out, putAll_snoc, ← HS.out, HP.out]
          simp
        have HDT := Lib.hid hdat
        have hsz2 : (s ++ X).size ≤ 4 * (k + 1) := by rw [ByteArray.size_append]; omega
        clear hown1 hown2 hb2 hbel1 hdat
        go_wp2
        go_roundw
        case rel => exact ⟨k + 1, s ++ X, by omega, by go_num, rfl, hsz2, hrow, hbel2, HDT⟩
        case measure => simp [intOf]; omega
      · have hmf : mayB xs[k] = false := by simpa using hm
        have HM := Lib.hid hmf
        have hput : putS xs[k] = ⟨#[]⟩ := by unfold putS; rw [hmf]; rfl
        have HP := Lib.hid hput
        have hrow : ORow w1 w.heap.size 3 u4 ((mays (xs.take (k + 1))).map iV) := by
          rw [HT.out, mays_snoc, if_neg hm]
          exact hown1
        have hdat : s.data.toList = putAll (mays (xs.take (k + 1))) := by
          rw [HT.out, mays_snoc, if_neg hm, ← HS.out]
        have HDT := Lib.hid hdat
        clear hput hmf hm hown1 hdat
        rw [HM.out, HP.out]
        go_wp2_with fail
        refine (may_any _ _).mono ?_
        rintro e w' ⟨rfl, rfl⟩
        rw [HM.out]
        go_wp2
        go_roundw
        case rel => exact ⟨k + 1, s, by omega, by go_num, rfl, by omega, hrow, hbel1, HDT⟩
        case measure => simp [intOf]; omega
    · have hkn : k = xs.length := by omega
      subst hkn
      have hall := HS.out
      rw [List.take_length] at hall hown
      have hrun : runesL s.data.toList = some (mays xs) := by
        rw [hall]
        exact runes_putAll _ (fun r hr => (List.mem_filter.1 hr).2)
      have HR := Lib.hid hrun
      have hml := mays_len xs
      clear hrun hall hA
      go_wp2_with fail
      refine (runes_any s _ (by omega)).mono ?_
      rintro e w1 ⟨v1, rfl, hr1, hb1⟩
      rw [HR.out] at hr1
      rw [HR.out]
      have i1 : IRead w1 v1 (mays xs) := IRead.of_row hr1
      have i2 : IRead w1 u4 (mays xs) := (IRead.of_row hown).below hb1
      have hb := hbel.trans (hb1.mono hbel.size)
      clear hr1 hown hb1 hbel
      go_wp2_with fail
      refine (same_any _ _ _ _ _ i1 i2 (by omega)).mono ?_
      rintro e w3 ⟨rfl, n, rfl⟩
      rw [show decide (mays xs = mays xs) = true from by simp]
      clear i1 i2
      go_wp2_with (first
        | (go_at_call 15; refine (lives_any _).mono ?_; rintro e w3 ⟨rfl, hb3⟩))
      go_ret
      exact ⟨rfl, (below_drewN hb n).trans (hb3.mono hb.size)⟩
end Go.Proofs.Ytbebpodhkffonaa
