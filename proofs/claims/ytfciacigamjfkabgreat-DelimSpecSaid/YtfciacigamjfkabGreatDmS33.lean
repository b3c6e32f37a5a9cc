/-
  The reference's begins: can bytes begin a character?
  The reference's Bad: the place of the first byte with which no text goes on.
  The reference's Begin.
-/
import Derived.Test.YtfciacigamjfkabGreatDmS32
import Derived.Test.YtfciacigamjfkabGreatDmS07
namespace Go.Proofs.YtfciacigamjfkabGreat
open Go.RowKit Go.Maps
set_option maxRecDepth 100000
set_option linter.unusedSimpArgs false
set_option linter.unusedVariables false
set_option linter.unusedSectionVars false
variable [Tab] [Fo]

/-- Bytes, of which n more may follow, begin a character, or are one. -/
def begL : Nat → List UInt8 → Bool
  | 0, l => decide ((oneL l).2 = l.length)
  | n + 1, l => decide ((oneL l).2 = l.length) || (decide (192 ≤ (l.headD 0).toNat) && (List.range 64).any fun i => begL n (l ++ [UInt8.ofNat (128 + i)]))
theorem bread_one (w : World) (b : UInt8) (bi : Int) (h : (b.toNat : Int) = bi) : BRead (w.alloc (.cells #[.int .u8 bi] 5)) (.slice (some ⟨w.heap.size, 0, none⟩) 1 1) [b] := by
  refine ⟨some ⟨w.heap.size, 0, none⟩, 1, rfl, fun _ => ⟨_, rfl, fun j hj => ?_⟩⟩
  have hj0 : j = 0 := by simp at hj; omega
  subst hj0
  rw [addr_add0]
  have := (Blk.new w 5 #[.int .u8 bi]).cell 0
  rw [this, ← h]
  rfl

set_option maxHeartbeats 8000000 in
theorem rbegins_any : ∀ (n : Nat) (s : ByteArray) (w : World), s.size + n = 4 → 1 ≤ s.size →
    Calls Tryz.prog 82 #[.string s] w fun e w' => e = .returned (.bool (begL n s.data.toList)) ∧ Below w.heap.size w w' := by
  intro n
  induction n with
  | zero =>
    intro s w hs h1
    have hO := one_any s w (by omega)
    unfold OneEnd at hO
    have hl : s.data.toList.length = s.size := by simp
    simp only [begL]
    rw [hl]
    generalize (oneL s.data.toList) = r at *
    obtain ⟨r1, r2⟩ := r
    simp only at hO ⊢
    have hz : s.size = 4 := by omega
    have z4 : decide ((4 : Int) ≤ (s.size : Int)) = true := by simp; omega
    obtain ⟨q, hq⟩ : ∃ q, decide (r2 = (s.size : Int)) = q := ⟨_, rfl⟩
    have hq2 : (r2 == (s.size : Int)) = q := by rw [← hq]; rfl
    rw [hq]
    have HO := Lib.hid hO
    clear hO hl hq
    cases q with
    | true =>
      go_enter Tryz.func82, Tryz.ntmps82
      go_wp2_with fail
      refine HO.out.mono ?_
      rintro e w' ⟨rfl, rfl⟩
      go_wp2
      go_ret
      exact ⟨rfl, Below.refl _ _⟩
    | false =>
      go_enter Tryz.func82, Tryz.ntmps82
      go_wp2_with fail
      refine HO.out.mono ?_
      rintro e w' ⟨rfl, rfl⟩
      go_wp2
      go_ret
      exact ⟨rfl, Below.refl _ _⟩
  | succ n ih =>
    intro s w hs h1
    have hO := one_any s w (by omega)
    unfold OneEnd at hO
    have hl : s.data.toList.length = s.size := by simp
    have hh : (s.data.toList.headD 0) = s[0] := by
      have : s.data.toList.drop 0 = s[0] :: s.data.toList.drop 1 := drop_cons s 0 (by omega)
      rw [List.drop_zero] at this
      rw [this]
      rfl
    have hB : begL (n + 1) s.data.toList = (decide ((oneL s.data.toList).2 = (s.size : Int)) || (decide (192 ≤ s[0].toNat) && (List.range 64).any fun i => begL n (s.data.toList ++ [UInt8.ofNat (128 + i)]))) := by
      simp only [begL]
      rw [hl, hh]
    rw [hB]
    generalize (oneL s.data.toList) = r at *
    obtain ⟨r1, r2⟩ := r
    simp only at hO ⊢
    obtain ⟨q, hq⟩ : ∃ q, decide (r2 = (s.size : Int)) = q := ⟨_, rfl⟩
    have hq2 : (r2 == (s.size : Int)) = q := by rw [← hq]; rfl
    rw [hq]
    have HO := Lib.hid hO
    have z4 : decide ((4 : Int) ≤ (s.size : Int)) = false := by simp; omega
    have n4 : ¬ (4 : Int) ≤ (s.size : Int) := by omega
    have hj : s[0]? = some s[0] := getElem?_pos s 0 (by omega)
    have hsz : (0 : Int) < (s.size : Int) := by omega
    have hle := byte_le s[0]
    obtain ⟨bi, hbi⟩ : ∃ bi : Int, (s[0].toNat : Int) = bi := ⟨_, rfl⟩
    have HIH := Lib.hid ih
    clear hO hl hq hB hh ih
    cases q with
    | true =>
      go_enter Tryz.func82, Tryz.ntmps82
      go_wp2_with fail
      refine HO.out.mono ?_
      rintro e w' ⟨rfl, rfl⟩
      go_wp2
      go_ret
      exact ⟨rfl, Below.refl _ _⟩
    | false =>
      by_cases h192 : bi < 192
      · have z192 : decide (bi < 192) = true := by simpa using h192
        have z192' : decide (192 ≤ s[0].toNat) = false := by simp; omega
        rw [z192']
        go_enter Tryz.func82, Tryz.ntmps82
        go_wp2_with fail
        refine HO.out.mono ?_
        rintro e w' ⟨rfl, rfl⟩
        go_wp2
        go_ret
        exact ⟨rfl, Below.refl _ _⟩
      · have z192 : decide (bi < 192) = false := by simpa using h192
        have z192' : decide (192 ≤ s[0].toNat) = true := by simp; omega
        rw [z192']
        obtain ⟨Q, hQ⟩ : ∃ Q, ((List.range 64).any fun i => begL n (s.data.toList ++ [UInt8.ofNat (128 + i)])) = Q := ⟨_, rfl⟩
        rw [hQ]
        have HQ := Lib.hid hQ
        clear hQ z192'
        go_enter Tryz.func82, Tryz.ntmps82
        go_wp2_with fail
        refine HO.out.mono ?_
        rintro e w' ⟨rfl, rfl⟩
        go_wp2
        go_loopw [5] (fun d wr => ∃ i : Nat, i ≤ 64 ∧ d = .int .i64 (128 + (i : Int)) ∧ Hid (Below w.heap.size w wr) ∧ Hid (∀ j, j < i → begL n (s.data.toList ++ [UInt8.ofNat (128 + j)]) = false)) (fun d _ => 192 - (intOf d).toNat)
        case atStart => exact ⟨0, by omega, rfl, Lib.hid (Below.refl _ _), Lib.hid (fun j hj => absurd hj (Nat.not_lt_zero _))⟩
        case round =>
          obtain ⟨i, hi, rfl, HBl, HJ⟩ := hrel
          by_cases hi64 : i < 64
          · have zi : decide ((128 : Int) + (i : Int) < 192) = true := by simp; omega
            obtain ⟨b, hb⟩ : ∃ b, UInt8.ofNat (128 + i) = b := ⟨_, rfl⟩
            have hbn : (b.toNat : Int) = 128 + (i : Int) := by
              rw [← hb]
              have : (UInt8.ofNat (128 + i)).toNat = 128 + i := UInt8.toNat_ofNat_of_lt' (show 128 + i < 256 by omega)
              rw [this]; omega
            obtain ⟨v, hv⟩ : ∃ v : Int, (128 : Int) + (i : Int) = v := ⟨_, rfl⟩
            rw [hv] at hbn
            have hv0 : 128 ≤ v ∧ v < 192 := by omega
            obtain ⟨hv1, hv2⟩ := hv0
            have hcv := str_of_read (P := Tryz.prog) (w := wr.alloc (.cells #[.int .u8 v] 5)) 22 9 5 Tryz.underlying22 Tryz.underlying5 Tryz.underlying9 (bread_one wr b v hbn)
            have al : Below wr.heap.size wr (wr.alloc (.cells #[.int .u8 v] 5)) := (Below.refl _ _).alloc (Nat.le_refl _) _
            obtain ⟨s', hs'⟩ : ∃ s' : ByteArray, s ++ (⟨[b].toArray⟩ : ByteArray) = s' := ⟨_, rfl⟩
            have hsl : s'.data.toList = s.data.toList ++ [b] := by rw [← hs']; simp
            have hsz' : s'.size = s.size + 1 := by rw [← hs', ByteArray.size_append]; rfl
            have hC := HIH.out s' (wr.alloc (.cells #[.int .u8 v] 5)) (by omega) (by omega)
            rw [hsl] at hC
            obtain ⟨g, hg⟩ : ∃ g, begL n (s.data.toList ++ [b]) = g := ⟨_, rfl⟩
            rw [hg] at hC
            have HC := Lib.hid hC
            have HG := Lib.hid hg
            have HAl := Lib.hid al
            have HBb := Lib.hid hb
            have hs2 : s ++ (⟨#[b]⟩ : ByteArray) = s' := hs'
            have hcv2 : (convert 22 9 (.slice (some ⟨wr.heap.size, 0, none⟩) 1 1)).run Tryz.prog (wr.alloc (.cells #[.int .u8 v] 5)) = .ok (.string ⟨#[b]⟩) (wr.alloc (.cells #[.int .u8 v] 5)) := hcv
            have hbz : wr.heap.size ≤ (wr.alloc (.cells #[.int .u8 v] 5)).heap.size := al.size
            clear hC hg al hb hsl hcv hbn
            go_wp2_with fail
            refine HC.out.mono ?_
            rintro e w2 ⟨rfl, hb2⟩
            have HB2 := Lib.hid (HBl.out.trans ((HAl.out.trans (hb2.mono hbz)).mono HBl.out.size))
            clear hb2 HC
            cases g with
            | true =>
              have hq1 : Q = true := by
                rw [← HQ.out, List.any_eq_true]
                exact ⟨i, List.mem_range.2 hi64, by rw [HBb.out]; exact HG.out⟩
              subst hq1
              go_wp2
              go_ret
              exact ⟨rfl, HB2.out⟩
            | false =>
              go_wp2
              go_roundw
              case rel => exact ⟨i + 1, by omega, by rw [← hv]; go_num, HB2, Lib.hid (fun j hj => by
                by_cases hji : j < i
                · exact HJ.out j hji
                · obtain rfl : j = i := by omega
                  rw [HBb.out]; exact HG.out)⟩
              case measure => simp [intOf]; omega
          · obtain rfl : i = 64 := by omega
            have hq1 : Q = false := by
              rw [← HQ.out, List.any_eq_false]
              intro j hj
              rw [HJ.out j (List.mem_range.1 hj)]
              decide
            subst hq1
            go_wp2
            go_ret
            exact ⟨rfl, HBl.out⟩
end Go.Proofs.YtfciacigamjfkabGreat
namespace Go.Proofs.YtfciacigamjfkabGreat
open Go.RowKit Go.Maps
set_option maxRecDepth 100000
set_option linter.unusedSimpArgs false
set_option linter.unusedVariables false
set_option linter.unusedSectionVars false
variable [Tab] [Fo]

/-- How many bytes (less one) begin no character, if any do. -/
def badKF : Nat → Nat → List UInt8 → Option Nat
  | 0, _, _ => none
  | f + 1, j, l => if begL (3 - j) (l.take (j + 1)) = false then some j else badKF f (j + 1) l
def badK (l : List UInt8) : Option Nat := badKF (min 4 l.length) 0 l
theorem take_extract (s : ByteArray) (a k : Nat) : (s.extract a (a + k)).data.toList = (s.data.toList.drop a).take k := by
  simp [List.take_drop]
def badF : Nat → List UInt8 → Nat → Int
  | 0, _, _ => -1
  | k + 1, l, a =>
    if l.length = 0 then -1
    else if 0 < (oneL l).2 then badF k (l.drop (oneL l).2.toNat) (a + (oneL l).2.toNat)
    else match badK l with
      | some j => (a : Int) + j
      | none => (a : Int) + l.length
theorem oneL_le (l : List UInt8) : 0 ≤ (oneL l).2 ∧ (oneL l).2 ≤ l.length := by
  cases l with
  | nil => simp [oneL]
  | cons c t =>
    have h := charStep [] c t
    unfold CharStep at h
    by_cases h0 : (oneL (c :: t)).2 = 0
    · rw [h0]; exact ⟨Int.le_refl _, by omega⟩
    · rw [if_neg h0] at h
      exact ⟨by omega, h.2.1⟩

set_option maxHeartbeats 8000000 in
theorem rbad_any (s : ByteArray) (w : World) (hm : s.size ≤ 1000) :
    Calls Tryz.prog 55 #[.string s] w fun e w' => e = .returned (.int .i64 (badF (s.size + 1) s.data.toList 0)) ∧ Below w.heap.size w w' := by
  obtain ⟨R, hR⟩ : ∃ R, badF (s.size + 1) s.data.toList 0 = R := ⟨_, rfl⟩
  rw [hR]
  have HR := Lib.hid hR
  have hsl : s.data.toList.length = s.size := by simp
  have HSl := Lib.hid hsl
  clear hR hsl
  go_enter Tryz.func55, Tryz.ntmps55
  go_wp2
  go_loopw [3] (fun u wr => ∃ (k a : Nat), a ≤ s.size ∧ s.size - a < k + 1 ∧ u = .int .i64 (a : Int) ∧ Hid (Below w.heap.size w wr) ∧ Hid (badF (k + 1) (s.data.toList.drop a) a = R)) (fun u _ => s.size - (intOf u).toNat)
  case atStart => exact ⟨s.size, 0, Nat.zero_le _, by omega, rfl, Lib.hid (Below.refl _ _), HR⟩
  case round =>
    obtain ⟨k, a, ha, hk, rfl, HB, HG⟩ := hrel
    by_cases hl : a < s.size
    · have hO := one_any (s.extract a s.size) wr (by simp; omega)
      unfold OneEnd at hO
      rw [extract_all] at hO
      have hg := HG.out
      unfold badF at hg
      have hdl : (s.data.toList.drop a).length = s.size - a := by rw [List.length_drop, HSl.out]
      rw [if_neg (by rw [hdl]; omega)] at hg
      have hle := oneL_le (s.data.toList.drop a)
      rw [hdl] at hle
      have HDl := Lib.hid hdl
      obtain ⟨r, hr⟩ : ∃ r, oneL (s.data.toList.drop a) = r := ⟨_, rfl⟩
      rw [hr] at hO hg hle
      obtain ⟨r1, r2⟩ := r
      simp only at hO hg hle
      obtain ⟨hr0, hr1⟩ := hle
      have HO := Lib.hid hO
      have hai : (a : Int) < (s.size : Int) := by omega
      clear hO hr hdl
      by_cases hn : 0 < r2
      · rw [if_pos hn] at hg
        obtain ⟨n, rfl⟩ : ∃ n : Nat, r2 = (n : Int) := ⟨r2.toNat, by omega⟩
        rw [Int.toNat_natCast, List.drop_drop] at hg
        have HG2 := Lib.hid hg
        have zn : decide ((0 : Int) < (n : Int)) = true := by simp; omega
        obtain ⟨m, hm1⟩ : ∃ m : Nat, (a : Int) + (n : Int) = m := ⟨a + n, by omega⟩
        have hm2 : a + n = m := by omega
        have hm3 : (m : Int) ≤ 1000 := by omega
        have HM := Lib.hid hm2
        clear hm2
        clear hg
        go_wp2_with fail
        refine HO.out.mono ?_
        rintro e w' ⟨rfl, rfl⟩
        go_wp2
        go_roundw
        case rel =>
          obtain ⟨k', hk'⟩ : ∃ k', k = k' + 1 := ⟨k - 1, by omega⟩
          have hm2 := HM.out
          exact ⟨k', m, by omega, by omega, rfl, HB, Lib.hid (by rw [← hk', ← hm2]; exact HG2.out)⟩
        case measure => have hm2 := HM.out; simp [intOf]; omega
      · rw [if_neg hn] at hg
        have hr00 : r2 = 0 := by omega
        subst hr00
        obtain ⟨l, hll⟩ : ∃ l, s.data.toList.drop a = l := ⟨_, rfl⟩
        rw [hll] at hg
        have hlen : l.length = s.size - a := by rw [← hll]; exact HDl.out
        obtain ⟨mn, hmn⟩ : ∃ mn, min 4 l.length = mn := ⟨_, rfl⟩
        have hmn1 : mn ≤ 4 ∧ mn ≤ s.size - a ∧ (mn = 4 ∨ mn = s.size - a) := by omega
        obtain ⟨hmn1, hmn2, hmn3⟩ := hmn1
        unfold badK at hg
        rw [hmn] at hg
        have HG2 := Lib.hid hg
        have HLl := Lib.hid hll
        have HLen := Lib.hid hlen
        clear hg hn hmn hll hlen
        go_wp2_with fail
        refine HO.out.mono ?_
        rintro e w' ⟨rfl, rfl⟩
        go_wp2
        go_loopw [6] (fun u wq => ∃ j : Nat, j ≤ mn ∧ u = .int .i64 ((a : Int) + 1 + (j : Int)) ∧ Hid (Below w.heap.size w wq) ∧ Hid (badKF mn 0 l = badKF (mn - j) j l)) (fun u _ => s.size + 1 - (intOf u).toNat)
        case atStart => exact ⟨0, Nat.zero_le _, by simp, HB, Lib.hid rfl⟩
        case round =>
          obtain ⟨j, hj, rfl, HB2, HK⟩ := hrel
          obtain ⟨q, hq⟩ : ∃ q : Nat, (a : Int) + 1 + (j : Int) = q := ⟨a + 1 + j, by omega⟩
          rw [hq]
          have hq1 : (q : Int) ≤ 2000 := by omega
          by_cases hjm : j < mn
          · have z1 : decide ((q : Int) ≤ (s.size : Int)) = true := by simp; omega
            have z2 : decide ((q : Int) ≤ (a : Int) + 4) = true := by simp; omega
            have zq : (q : Int) ≤ (s.size : Int) := by omega
            have zq2 : (a : Int) ≤ (q : Int) := by omega
            have zn1 : decide (q ≤ s.size) = true := by simp; omega
            have hqe : q = a + (j + 1) := by omega
            have hsz : (s.extract a q).size = j + 1 := by simp; omega
            have hC := fun W => rbegins_any (3 - j) (s.extract a q) W (by rw [hsz]; omega) (by rw [hsz]; omega)
            have hte : (s.extract a q).data.toList = l.take (j + 1) := by rw [hqe, take_extract, HLl.out]
            rw [hte] at hC
            obtain ⟨g, hg⟩ : ∃ g, begL (3 - j) (l.take (j + 1)) = g := ⟨_, rfl⟩
            rw [hg] at hC
            clear hte
            have HC := Lib.hid hC
            have HKg := Lib.hid hg
            have HQe := Lib.hid (And.intro hqe hq)
            have hk2 := HK.out
            rw [show mn - j = (mn - (j + 1)) + 1 by omega] at hk2
            simp only [badKF] at hk2
            rw [hg] at hk2
            have HK2 := Lib.hid hk2
            clear hC hg hqe hq hsz hk2
            go_wp2_with fail
            refine (HC.out _).mono ?_
            rintro e w2 ⟨rfl, hb2⟩
            have HB3 := Lib.hid (HB2.out.trans (hb2.mono HB2.out.size))
            clear hb2 HC
            cases g with
            | false =>
              have hR : (a : Int) + (j : Int) = R := by
                have h := HG2.out
                rw [HK2.out] at h
                exact h
              have HRR := Lib.hid hR
              obtain ⟨p, hp⟩ : ∃ p : Int, (q : Int) - 1 = p := ⟨_, rfl⟩
              have HP := Lib.hid hp
              clear hR
              go_wp2
              go_ret
              refine ⟨?_, HB3.out⟩
              have h1 := HP.out
              have h2 := HRR.out
              have h3 := HQe.out.2
              have : p = R := by omega
              rw [← this]
              rfl
            | true =>
              obtain ⟨q', hq'⟩ : ∃ q' : Int, (q : Int) + 1 = q' := ⟨_, rfl⟩
              have HQ' := Lib.hid hq'
              have hq2 : q' ≤ 2001 ∧ 0 ≤ q' := by omega
              obtain ⟨hq2, hq3⟩ := hq2
              go_wp2
              go_roundw
              case rel => exact ⟨j + 1, by omega, by have := HQe.out.2; have := HQ'.out; congr 1; omega, HB3, Lib.hid (by rw [HK2.out]; rfl)⟩
              case measure => have h1 := HQ'.out; have h3 := HQe.out.2; simp [intOf]; omega
          · obtain rfl : j = mn := by omega
            have hR : ((a : Int) + (l.length : Int)) = R := by
              have h := HG2.out
              rw [HK.out, Nat.sub_self] at h
              exact h
            rw [HLen.out] at hR
            have hR2 : (s.size : Int) = R := by omega
            have HRR := Lib.hid hR2
            have hz : (¬ (q : Int) ≤ (s.size : Int) ∧ decide (q ≤ s.size) = false ∧ decide ((q : Int) ≤ (s.size : Int)) = false) ∨ ((q : Int) ≤ (s.size : Int) ∧ decide (q ≤ s.size) = true ∧ decide ((q : Int) ≤ (s.size : Int)) = true ∧ ¬ (q : Int) ≤ (a : Int) + 4 ∧ decide ((q : Int) ≤ (a : Int) + 4) = false) := by
              by_cases h1 : (q : Int) ≤ (s.size : Int)
              · exact .inr ⟨h1, by simp; omega, by simp; omega, by omega, by simp; omega⟩
              · exact .inl ⟨h1, by simp; omega, by simp; omega⟩
            clear hR hR2 hq
            rcases hz with ⟨z0, z1, z2⟩ | ⟨z0, z1, z2, z3, z4⟩
            all_goals
              go_wp2
              go_ret
              exact ⟨by have h := HRR.out; rw [← h]; rfl, HB2.out⟩
    · have hae : a = s.size := by omega
      have hg := HG.out
      unfold badF at hg
      rw [if_pos (by rw [List.length_drop, HSl.out]; omega)] at hg
      have HG2 := Lib.hid hg
      have z1 : decide ((a : Int) < (s.size : Int)) = false := by simp; omega
      clear hg
      go_wp2
      go_ret
      exact ⟨by have h := HG2.out; subst h; rfl, HB.out⟩
end Go.Proofs.YtfciacigamjfkabGreat
namespace Go.Proofs.YtfciacigamjfkabGreat
open Go.RowKit Go.Maps
set_option maxRecDepth 100000
set_option linter.unusedSimpArgs false
set_option linter.unusedVariables false
set_option linter.unusedSectionVars false
variable [Tab] [Fo]

/-- The place of the first byte with which no text goes on, of a whole text. -/
def badN (S : List UInt8) : Int := badF (S.length + 1) S 0
def begX (S : List UInt8) : Tx := if badN S < 0 then ⟨S, 0, true, [], 0, 0⟩ else ⟨S.take (badN S).toNat, 0, false, [], 0, 0⟩
theorem badK_le : ∀ (f j : Nat) (l : List UInt8) (i : Nat), badKF f j l = some i → i < j + f
  | 0, _, _, _, h => by cases h
  | f + 1, j, l, i, h => by
    simp only [badKF] at h
    split at h
    · injection h with h; omega
    · have := badK_le f (j + 1) l i h; omega
theorem badF_range : ∀ (k : Nat) (l : List UInt8) (a : Nat), -1 ≤ badF k l a ∧ badF k l a ≤ a + l.length
  | 0, l, a => by simp only [badF]; omega
  | k + 1, l, a => by
    unfold badF
    split
    · omega
    · split
      · have h1 := oneL_le l
        have h2 := badF_range k (l.drop (oneL l).2.toNat) (a + (oneL l).2.toNat)
        rw [List.length_drop] at h2
        omega
      · split
        · rename_i j hj
          have := badK_le _ _ _ _ hj
          omega
        · omega
theorem badN_range (S : List UInt8) : -1 ≤ badN S ∧ badN S ≤ S.length := by
  have := badF_range (S.length + 1) S 0
  unfold badN
  omega

set_option maxHeartbeats 4000000 in
theorem rbegin_any (S : List UInt8) (w : World) (hm : S.length ≤ 900) (hfl : Fo.lim ≤ w.heap.size) :
    Calls Tryz.prog 34 #[.string ⟨S.toArray⟩] w fun e w' => ∃ t, e = .returned (.tuple #[.pointer (some ⟨t, 0, none⟩), .int .i64 (badN S)]) ∧ TxAt w' w.heap.size t (begX S) (.slice none 0 0) ∧ ¬ Fo.F t ∧ Below w.heap.size w w' := by
  have hz : (⟨S.toArray⟩ : ByteArray).size = S.length := by show S.toArray.size = _; simp
  have hB := rbad_any (⟨S.toArray⟩ : ByteArray) w (by omega)
  have hd : (⟨S.toArray⟩ : ByteArray).data.toList = S := rfl
  rw [hz, hd] at hB
  have hr := badN_range S
  change Calls _ _ _ _ (fun e w' => e = .returned (.int .i64 (badN S)) ∧ _) at hB
  unfold begX
  have hex : ∀ n : Nat, n ≤ S.length → (⟨S.toArray⟩ : ByteArray).extract 0 n = ⟨(S.take n).toArray⟩ := fun n _ => by
    have h := take_extract (⟨S.toArray⟩ : ByteArray) 0 n
    rw [Nat.zero_add, List.drop_zero] at h
    have h2 : ((⟨S.toArray⟩ : ByteArray).extract 0 n).data = (S.take n).toArray := by
      apply Array.toList_inj.1
      rw [h]
    exact congrArg ByteArray.mk h2
  generalize badN S = B at *
  have HB := Lib.hid hB
  clear hB hd
  by_cases hn : B < 0
  · rw [if_pos hn]
    have hB1 : B = -1 := by omega
    subst hB1
    clear hex
    generalize hs : (⟨S.toArray⟩ : ByteArray) = s at *
    go_enter Tryz.func34, Tryz.ntmps34
    go_wp2_with fail
    refine HB.out.mono ?_
    rintro e w1 ⟨rfl, hb1⟩
    go_wp2
    go_ret2
    have al : Below w1.heap.size w1 (w1.alloc (.cells (txCells ⟨S, 0, true, [], 0, 0⟩ (.slice none 0 0)) 67)) := (Below.refl _ _).alloc (Nat.le_refl _) _
    have hz1 := hb1.size
    refine ⟨w1.heap.size, rfl, ⟨?_, ERow.nil _ _, hz1, NF.nil, by first | (simp; done) | (simp; omega)⟩, nf_new (Nat.le_trans hfl hz1), ?_⟩
    · have := Blk.new w1 67 (txCells ⟨S, 0, true, [], 0, 0⟩ (.slice none 0 0))
      unfold txCells at this
      rw [hs] at this
      unfold txCells
      rw [hs]
      exact this
    · exact hb1.trans ((Below.refl _ _).alloc hz1 _)
  · rw [if_neg hn]
    obtain ⟨n, rfl⟩ : ∃ n : Nat, B = (n : Int) := ⟨B.toNat, by omega⟩
    rw [Int.toNat_natCast]
    have hnl : n ≤ S.length := by omega
    have he := hex n hnl
    have zn : decide ((n : Int) < 0) = false := by rw [decide_eq_false_iff_not]; omega
    have hni : (n : Int) ≤ ((⟨S.toArray⟩ : ByteArray).size : Int) := by omega
    clear hex hr
    generalize (⟨S.toArray⟩ : ByteArray) = s at *
    generalize hq : (⟨(S.take n).toArray⟩ : ByteArray) = q at *
    go_enter Tryz.func34, Tryz.ntmps34
    go_wp2_with fail
    refine HB.out.mono ?_
    rintro e w1 ⟨rfl, hb1⟩
    go_wp2
    go_ret2
    have hz1 := hb1.size
    refine ⟨w1.heap.size, rfl, ⟨?_, ERow.nil _ _, hz1, NF.nil, by first | (simp; done) | (simp; omega)⟩, nf_new (Nat.le_trans hfl hz1), ?_⟩
    · have := Blk.new w1 67 (txCells ⟨S.take n, 0, false, [], 0, 0⟩ (.slice none 0 0))
      unfold txCells at this
      rw [hq] at this
      unfold txCells
      rw [hq]
      exact this
    · exact hb1.trans ((Below.refl _ _).alloc hz1 _)
end Go.Proofs.YtfciacigamjfkabGreat
