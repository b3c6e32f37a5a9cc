/-
  The walk of DelimStays.
  A table for the walks that ask for one: the library's own.
-/
import Derived.Test.YtfciacigamjfkabGreatDmC35
import Derived.Test.YtfciacigamjfkabGreatDmC38
import Derived.Test.YtfciacigamjfkabGreatRows
import Derived.Test.YtfciacigamjfkabGreatDmC03
import Derived.Lib.LaidTab
namespace Go.Proofs.YtfciacigamjfkabGreat
open Go.RowKit Go.Maps
set_option maxRecDepth 100000
set_option linter.unusedSimpArgs false
set_option linter.unusedVariables false
set_option linter.unusedSectionVars false
variable [Tab] [Fo]

set_option maxHeartbeats 4000000 in
theorem walk_DelimStays (v0 : Value) (bs : List UInt8) (_hlen : bs.length ≤ 140737488355328) (hcap : ∀ A n c, v0 = .slice A n c → n ≤ c) (w : World) (hfl : Fo.lim ≤ w.heap.size) (h0 : BRead w v0 bs) :
    Calls Tryz.prog 6 #[v0] w fun e w' => e = .returned (.bool true) ∧ Below w.heap.size w w' := by
  obtain ⟨A, c, rfl, hA⟩ := h0
  have hF := few_D w A c bs ⟨A, c, rfl, hA⟩ (hcap _ _ _ rfl)
  clear hA
  go_enter Tryz.func6, Tryz.ntmps6
  go_wp2_with fail
  refine hF.mono ?_
  rintro e w' ⟨rfl, hR, rfl⟩
  have hts : (bs.take 600).length ≤ 600 := by rw [List.length_take]; omega
  generalize bs.take 600 = ts at *
  obtain ⟨Lt, hLt⟩ : ∃ Lt, ts.length = Lt := ⟨_, rfl⟩
  rw [hLt] at hR ⊢
  have HLt := Lib.hid hLt
  have HR := Lib.hid hR
  have HTS := Lib.hid hts
  clear hF hcap hts hLt
  go_wp2_with (first
    | (at_builtin; refine wp_appT rfl _ _ 22 rfl w.heap.size 5 Tryz.underlying22 Tryz.info5 _ _ [] ts rfl (ORow.nil _ _ _) rfl HR.out (by have := HTS.out; simp; omega) (Nat.le_refl _) ?_; intro v1 w1 hown1 hg1 _; have hb1 := below_gr (ORow.nil w w.heap.size 5) hg1 (Nat.le_refl _)))
  obtain ⟨A1, c1, rfl⟩ := hown1.shape
  simp only [List.nil_append, List.length_map] at hown1
  have hl1 : (List.map bV ([] ++ ts)).length = Lt := by rw [List.nil_append, List.length_map]; exact HLt.out
  rw [hl1]
  rw [HLt.out] at hown1
  have HB1 := Lib.hid hb1
  have HO1 := Lib.hid hown1
  have hD1 := Lib.hid (ddecode_any w1 (.slice A1 Lt c1) ts (by have := HTS.out; omega) (BRead.of_row HO1.out) (Nat.le_trans hfl hb1.size))
  obtain ⟨E, hE⟩ : ∃ E, dEr ts = E := ⟨_, rfl⟩
  obtain ⟨R, hRd⟩ : ∃ R, dRd ts = R := ⟨_, rfl⟩
  obtain ⟨L, hL⟩ : ∃ L, dEv ts = L := ⟨_, rfl⟩
  obtain ⟨n, hn⟩ : ∃ n, L.length = n := ⟨_, rfl⟩
  have HE := Lib.hid hE
  have HRd := Lib.hid hRd
  have HL := Lib.hid hL
  have Hn := Lib.hid hn
  rw [hE, hRd, hL] at hD1
  clear hE hRd hL hn hown1 hg1 hb1 hl1 hR
  go_wp2_with fail
  refine hD1.out.mono ?_
  rintro e w2 ⟨lv, rfl, hRow, hb2⟩
  unfold ERow at hRow
  rw [Hn.out] at hRow
  obtain ⟨Al, cl, rfl, hAl⟩ := rowX_shape hRow
  have hrow2 := hRow
  go_wp2
  go_loopw [7] (fun i wr => ∃ (k : Nat) (xs : List Value), k ≤ n ∧ i = .int .i64 k ∧ wr.ownsRow w1.heap.size 46 3 (.slice Al n cl) n xs ∧ Hid (Below w1.heap.size w1 wr)) (fun i _ => n - (intOf i).toNat)
  case atStart => exact ⟨0, _, Nat.zero_le _, rfl, hrow2, Lib.hid hb2⟩
  case round =>
    obtain ⟨k, xs, hk, rfl, hX, HB⟩ := hrel
    by_cases hlt : k < n
    case pos =>
      obtain ⟨r, rfl⟩ := hAl (by omega)
      obtain ⟨u0, e0⟩ := row_get hX (i := k * 3) (by omega)
      obtain ⟨u1, e1⟩ := row_get hX (i := k * 3 + 1) (by omega)
      obtain ⟨u2, e2⟩ := row_get hX (i := k * 3 + 2) (by omega)
      obtain ⟨hr1, hr2, hr3, hr4, _, hfz, _⟩ := rowN_block hX
      have hcm : cl ≤ 9223372036854775807 := by simpa [maxLen] using hr4
      have f0 := hfz (k * 3)
      have f1 := hfz (k * 3 + 1)
      have f2 := hfz (k * 3 + 2)
      have hX3 := rowN_set (rowN_set (rowN_set hX (k * 3) (.int .i64 77)) (k * 3 + 1) (.string ⟨#[]⟩)) (k * 3 + 2) (.string ⟨#[]⟩)
      have hB3 := ((HB.out.setCell (p := ⟨r, k * 3, none⟩) hr1 (.int .i64 77)).setCell (p := ⟨r, k * 3 + 1, none⟩) hr1 (.string ⟨#[]⟩)).setCell (p := ⟨r, k * 3 + 2, none⟩) hr1 (.string ⟨#[]⟩)
      have HX3 := Lib.hid (And.intro hX3 hB3)
      clear hX hX3 hB3 hfz hrow2 hRow
      go_wp2
      go_roundw
      case rel => exact ⟨k + 1, _, hlt, by go_num, HX3.out.1, Lib.hid HX3.out.2⟩
      case measure => first | (simp [intOf]; done) | (simp [intOf]; omega)
    case neg =>
      obtain rfl : k = n := by omega
      have hs1 := Lib.hid (str_of_read (P := Tryz.prog) 22 9 5 Tryz.underlying22 Tryz.underlying5 Tryz.underlying9 (BRead.of_row (HO1.out.below HB.out (fun g hg => (World.ownsRow.lt HO1.out g hg).2))))
      have hBr := Lib.hid (HB1.out.trans (HB.out.mono HB1.out.size))
      have hs2 := Lib.hid (str_of_read (P := Tryz.prog) 22 9 5 Tryz.underlying22 Tryz.underlying5 Tryz.underlying9 (HR.out.below hBr.out))
      have hc1 := hs1.out
      have hc2 := hs2.out
      have HO2 := Lib.hid (HO1.out.below HB.out (fun g hg => (World.ownsRow.lt HO1.out g hg).2))
      have hkk : (List.map bV ts).length = Lt := by rw [List.length_map]; exact HLt.out
      clear hX hs1 hs2 hrow2 hRow
      go_wp2
      go_loopw [8] (fun i wr2 => ∃ (j : Nat) (cs : List Value), j ≤ Lt ∧ i = .int .i64 j ∧ wr2.ownsRow w.heap.size 5 1 (.slice A1 Lt c1) Lt cs ∧ Hid (Below w.heap.size w wr2)) (fun i _ => Lt - (intOf i).toNat)
      case atStart =>
        have h := HO2.out
        unfold ORow at h
        rw [hkk] at h
        exact ⟨0, _, Nat.zero_le _, rfl, h, hBr⟩
      case round =>
        obtain ⟨j, cs, hj, rfl, hY, HC⟩ := hrel
        by_cases hlj : j < Lt
        case pos =>
          obtain ⟨A', c', hv', hA'⟩ := rowX_shape hY
          injection hv' with q1 _ q3
          subst q1 q3
          obtain ⟨r1, rfl⟩ := hA' (by omega)
          obtain ⟨u0, e0⟩ := row_get hY (i := j) (by omega)
          obtain ⟨hr1, hr2, hr3, hr4, _, hfz, _⟩ := rowN_block hY
          have hcm : c1 ≤ 9223372036854775807 := by simpa [maxLen] using hr4
          have f0 := hfz j
          have HY := Lib.hid (And.intro (rowN_set hY j (.int .u8 120)) (HC.out.setCell (p := ⟨r1, j, none⟩) hr1 (.int .u8 120)))
          clear hY hfz
          go_wp2
          go_roundw
          case rel => exact ⟨j + 1, _, hlj, by go_num, HY.out.1, Lib.hid HY.out.2⟩
          case measure => first | (simp [intOf]; done) | (simp [intOf]; omega)
        case neg =>
          obtain rfl : j = Lt := by omega
          have hD3 := Lib.hid (fun w3 (h : Below w.heap.size w w3) => ddecode_any w3 (.slice A j c) ts (by have := HTS.out; omega) (HR.out.below h) (Nat.le_trans hfl h.size))
          rw [HE.out, HRd.out, HL.out] at hD3
          clear hY
          go_wp2_with fail
          refine (hD3.out _ HC.out).mono ?_
          rintro e w4 ⟨lv4, rfl, hRow4, hb4⟩
          have HB4 := Lib.hid (HC.out.trans (hb4.mono HC.out.size))
          have HRow4 := Lib.hid hRow4
          obtain ⟨A4, c4, rfl⟩ := hRow4.shape
          rw [Hn.out] at HRow4 ⊢
          clear hRow4 hb4
          go_wp2_with fail
          refine (hD3.out _ HB4.out).mono ?_
          rintro e w5 ⟨lv5, rfl, hRow5, hb5⟩
          have HB5 := Lib.hid (HB4.out.trans (hb5.mono HB4.out.size))
          have HRow5 := Lib.hid hRow5
          obtain ⟨A5, c5, rfl⟩ := hRow5.shape
          rw [Hn.out] at HRow5 ⊢
          have hS := esame_any w5 (.slice A4 k c4) (.slice A5 k c5) L L (HRow4.out.below hb5).read HRow5.out.read
          rw [decide_eq_true rfl] at hS
          have HS := Lib.hid hS
          clear hRow5 hb5 hS
          go_wp2_with fail
          refine HS.out.mono ?_
          rintro e w6 ⟨rfl, hb6⟩
          have HB6 := Lib.hid (HB5.out.trans (hb6.mono HB5.out.size))
          have HV := Lib.hid (lives_D w6 (Nat.le_trans hfl HB6.out.size))
          clear hb6 HS
          go_wp2_with fail
          refine HV.out.mono ?_
          rintro e w7 ⟨rfl, hb7⟩
          have HB7 := Lib.hid (HB6.out.trans (hb7.mono HB6.out.size))
          clear hb7
          go_wp2
          go_ret
          exact ⟨rfl, HB7.out⟩
end Go.Proofs.YtfciacigamjfkabGreat
namespace Go.Proofs.YtfciacigamjfkabGreat
open Go.RowKit
@[reducible] def tab0 : Tab := ⟨Lib.pow10Tab, by unfold okTab; decide +kernel⟩
end Go.Proofs.YtfciacigamjfkabGreat
