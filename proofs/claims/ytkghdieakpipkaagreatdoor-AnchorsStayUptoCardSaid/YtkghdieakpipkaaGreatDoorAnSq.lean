/-
  The walk of AnchorsStay.
-/
import Derived.Test.YtkghdieakpipkaaGreatDoorAnTq
namespace Go.Proofs.YtkghdieakpipkaaGreatDoor
open Go.RowKit Go.Maps
set_option maxRecDepth 100000
set_option linter.unusedSimpArgs false
set_option linter.unusedVariables false

set_option maxHeartbeats 16000000 in
theorem walk_AnchorsStay (v : Value) (xs : List Dk) (hx : ∀ d ∈ xs, okK d) (hn : xs.length ≤ 4611686018427387904) (hu : ∀ d ∈ xs, upK d) (x : Ev) (hxo : okE x) (hxu : x.t.size ≤ 1048576 ∧ x.v.size ≤ 1048576) (w : World) (hw : Nm.StdW w) (hv : KRead w v xs) :
    Calls Tryz.prog 6 #[v, .agg #[.int .i64 x.k, .string x.t, .string x.v]] w fun e w' => e = .returned (.bool true) ∧ Below w.heap.size w w' := by
  have hv' := hv
  obtain ⟨A, c, rfl, hlc, _⟩ := hv'
  obtain ⟨L, hL⟩ : ∃ L, xs.length = L := ⟨_, rfl⟩
  rw [hL] at hv ⊢
  have HK := Lib.hid hv
  have HL := Lib.hid hL
  have HX := Lib.hid (And.intro hx hu)
  have HXo := Lib.hid hxo
  have hn2 : L ≤ 4611686018427387904 := by omega
  have hba : Below w.heap.size w (w.alloc (.cells #[.int .i64 x.k, .string x.t, .string x.v] 31)) := (Below.refl _ _).alloc (Nat.le_refl _) _
  have hbx := Blk.new w 31 #[.int .i64 x.k, .string x.t, .string x.v]
  obtain ⟨w0, hw0⟩ : ∃ w0, w.alloc (.cells #[.int .i64 x.k, .string x.t, .string x.v] 31) = w0 := ⟨_, rfl⟩
  have hw' : SWB w0.heap.size w0 := SWB.of (by rw [← hw0]; exact (SWB.of (w := w) hw |>.below hba).std)
  rw [hw0] at hba hbx
  have HB0 := Lib.hid (And.intro hba hbx)
  have HN := Lib.hid (fun (w' : World) (hb : w0.heap.size ≤ w'.heap.size) (h : SWB w0.heap.size w') => new_is w0.heap.size w' hb h)
  have HLv := Lib.hid (fun (w' : World) (hb : w0.heap.size ≤ w'.heap.size) (h : SWB w0.heap.size w') => lives10_any w0.heap.size w' hb h)
  have HW0 := Lib.hid hw'
  have HE0 := Lib.hid hw0
  have HFin : Hid (∀ w', Below w0.heap.size w0 w' → Below w.heap.size w w') := Lib.hid (fun w' hb => hba.trans (hb.mono hba.size))
  clear hv hL hx hn hlc hw hw' hu hxo hba hbx hw0 hxu
  go_enter Tryz.func6, Tryz.ntmps6
  go_wp2_with fail
  rw [HE0.out]
  obtain ⟨xb, hxb⟩ : ∃ xb, w.heap.size = xb := ⟨_, rfl⟩
  rw [hxb] at HB0 ⊢
  refine (HN.out w0 (Nat.le_refl _) HW0.out).mono ?_
  rintro e w1 ⟨a, rfl, hb1, S1, hA1, _⟩
  have HA1 := Lib.hid (And.intro hA1 hb1)
  clear hA1 hb1
  go_wp2_with fail
  refine (HN.out w1 HA1.out.2.size HA1.out.1.std).mono ?_
  rintro e w2 ⟨b, rfl, hb2, S2, hA2, hS2⟩
  have start : Hid (∃ s S T S2, Three w0.heap.size (w2.alloc (.cells #[.slice none 0 0, .int .i64 0] 28)) S T S2 a w2.heap.size b s ∧ Below w0.heap.size w0 (w2.alloc (.cells #[.slice none 0 0, .int .i64 0] 28))) := by
    have hbb := HA1.out.2.trans (hb2.mono HA1.out.2.size)
    have hal : Below w2.heap.size w2 (w2.alloc (.cells #[.slice none 0 0, .int .i64 0] 28)) := (Below.refl _ _).alloc (Nat.le_refl _) _
    refine Lib.hid ⟨live0, S1, _, S2, ⟨both_new (HA1.out.1.below hb2), hA2.below hal, ?_, ?_⟩, hbb.alloc hbb.size _⟩
    · intro k hk h5
      have q1 := hS2 k hk
      have q2 := HA1.out.1.lies.lt k h5
      omega
    · intro k hk h5
      have q1 := hA2.lies.lt k hk
      omega
  clear hb2 hA2 hS2 HA1 HN
  go_wp2
  go_loopw [8] (fun u8 wr => ∃ k : Nat, k ≤ L ∧ u8 = .int .i64 (k : Int) ∧ Hid (∃ s S T S2, Three w0.heap.size wr S T S2 a w2.heap.size b s ∧ Below w0.heap.size w0 wr)) (fun u8 _ => L - (intOf u8).toNat)
  case atStart => exact ⟨0, Nat.zero_le _, rfl, start⟩
  case round =>
    obtain ⟨k, hk, rfl, HA⟩ := hrel
    obtain ⟨s, S, T, S3, hA, hb⟩ := HA.out
    clear start
    by_cases hgo : k < L ∧ k < 60
    case neg =>
      have hxr := HB0.out.2.below hb HB0.out.2.lt
      have x0 : wr.cell? ⟨xb, 0, none⟩ = some (.int .i64 x.k) := hxr.cell 0
      have x1 : wr.cell? ⟨xb, 1, none⟩ = some (.string x.t) := hxr.cell 1
      have x2 : wr.cell? ⟨xb, 2, none⟩ = some (.string x.v) := hxr.cell 2
      have HS := Lib.hid (step_is hA.both.prog x HXo.out)
      obtain ⟨E, hE⟩ : ∃ E, stepAE s x = E := ⟨_, rfl⟩
      rw [hE] at HS
      have HT := Lib.hid (And.intro hA (And.intro hb hE))
      clear hA hb HA hxr hE
      by_cases hlt : k < L
      case' pos => have h300 : decide ((k : Int) < 60) = false := by rw [decide_eq_false_iff_not]; omega
      all_goals
        clear hgo
        by_cases hz : E = 0
        case pos =>
          subst hz
          go_wp2_with fail
          refine HS.out.mono ?_
          rintro e w3 ⟨rfl, S5, hA5, _, hb5, _⟩
          have hb5' := HT.out.2.1.trans hb5
          have Hfin := Lib.hid (HLv.out w3 hb5'.size hA5.std)
          have HB5 := Lib.hid hb5'
          clear hA5 hb5 hb5' HS x0 x1 x2
          go_wp2_with fail
          refine Hfin.out.mono ?_
          rintro e w4 ⟨rfl, hb6⟩
          have HB6 := Lib.hid (HFin.out _ (HB5.out.trans (hb6.mono HB5.out.size)))
          clear hb6 Hfin
          go_wp2
          go_ret
          exact ⟨rfl, HB6.out⟩
        case neg =>
          have z0 := eq_ibeq hz
          have HZ := Lib.hid hz
          clear hz
          go_wp2_with fail
          refine HS.out.mono ?_
          rintro e w3 ⟨rfl, hp5⟩
          have hM : stepAM s x = s := by unfold stepAM; rw [HT.out.2.2, if_neg HZ.out]
          rw [hM] at hp5
          obtain ⟨S5, hA5, hC5, hR5, d1, d2, d3, hb5⟩ := HT.out.1.refused hp5
          have HD := Lib.hid (And.intro d1 (And.intro d2 d3))
          obtain ⟨c5, A5, hc5, hcm5, hl5⟩ : ∃ c5 A5, w3.cell? ⟨w2.heap.size, 0, none⟩ = some (.slice A5 s.m.length c5) ∧ c5 ≤ 9223372036854775807 ∧ s.m.length ≤ c5 := by
            obtain ⟨A5, c5, h5⟩ := hR5.len
            exact ⟨c5, A5, h5⟩
          have start : Hid (∃ s', AIs w0.heap.size w3 S5 a s' ∧ AIs w0.heap.size w3 S3 b s' ∧ RAt w3 T w2.heap.size s ∧ Below w0.heap.size w0 w3) := Lib.hid ⟨s, hA5, hC5, hR5, HT.out.2.1.trans hb5⟩
          have HIs := Lib.hid hA5.inv
          have hN : s.m.length ≤ 200 := by
            have h5 := sizeA_len fun r hr => (hA5.inv.ok r hr).2
            have h6 := hA5.inv.sz
            omega
          clear hp5 hA5 hC5 hR5 d1 d2 d3 hb5 HT HS x0 x1 x2 hM hc5 hcm5 hl5
          obtain ⟨N, hNe⟩ : ∃ N, s.m.length = N := ⟨_, rfl⟩
          rw [hNe] at hN
          have HNe := Lib.hid hNe
          clear hNe
          go_wp2
          go_loopw [10] (fun u10 wr => ∃ j : Nat, j ≤ N ∧ u10 = .int .i64 (j : Int) ∧ Hid (∃ s', AIs w0.heap.size wr S5 a s' ∧ AIs w0.heap.size wr S3 b s' ∧ RAt wr T w2.heap.size s ∧ Below w0.heap.size w0 wr)) (fun u10 _ => N - (intOf u10).toNat)
          case atStart => exact ⟨0, Nat.zero_le _, rfl, start⟩
          case round =>
            obtain ⟨j, hj, rfl, HA⟩ := hrel
            clear start
            obtain ⟨s', hA, hC, hR, hb⟩ := HA.out
            by_cases hjl : j < N
            case neg =>
              have hje : j = N := by omega
              subst hje
              obtain ⟨A5, c5, h5, _, _⟩ := hR.len
              rw [HNe.out] at h5
              have HSa := Lib.hid (size_is hA)
              have HSb := Lib.hid (size_is hC)
              have Hfin := Lib.hid (HLv.out wr hb.size hA.std)
              have HBb := Lib.hid hb
              clear hA hC hR hb HA hjl
              generalize sizeA s'.m = z at *
              go_wp2_with (first
                | (go_at_call 9; first | (refine HSa.out.mono ?_; rintro e w6 ⟨rfl, rfl⟩) | (refine HSb.out.mono ?_; rintro e w6 ⟨rfl, rfl⟩))
                | (go_at_call 12; refine Hfin.out.mono ?_; rintro e w6 ⟨rfl, hb6⟩))
              go_ret
              exact ⟨rfl, HFin.out _ (HBb.out.trans (hb6.mono HBb.out.size))⟩
            case pos =>
              have hjm : j < s.m.length := by rw [HNe.out]; exact hjl
              obtain ⟨bb, oo, c5, h5, hcm5, hlc5, hnm⟩ := hR.name hjm
              rw [HNe.out] at h5 hlc5
              have hsm := name_small HIs.out hjm
              have hsb := szOf s.m[j].1
              unfold strV at hnm
              have hjli : (j : Int) < N := by omega
              obtain ⟨nb, hnbe⟩ : ∃ nb, (⟨s.m[j].1.toArray⟩ : ByteArray) = nb := ⟨_, rfl⟩
              rw [hnbe] at hnm hsb
              have HNb := Lib.hid hnbe
              clear hnbe
              have hnb : nb.size ≤ 140737488355328 := by omega
              have HG := Lib.hid (get_is hA nb hnb)
              have HAC := Lib.hid (And.intro hA (And.intro hC (And.intro hR hb)))
              clear hA hC hR hb HA hsm hsb
              go_wp2_with fail
              refine HG.out.mono ?_
              rintro e w5 ⟨lv, rfl, hr5, hA5, ht5, hb5⟩
              obtain ⟨hC5, hR5, hn5⟩ := gets_step HAC.out.1 HAC.out.2.1 HAC.out.2.2.1 HD.out.1 HD.out.2.1 HD.out.2.2 ht5 hr5
              have HG2 := Lib.hid (get_is hC5 nb hnb)
              have H5 := Lib.hid (And.intro hr5 (And.intro hA5 (And.intro hb5 (And.intro hC5 (And.intro hR5 hn5)))))
              clear h5 hcm5 hlc5 hnm hr5 hA5 ht5 hb5 hC5 hR5 hn5 HG
              obtain ⟨bb', oo', c6, h6, hcm6, hlc6, hnm6⟩ := H5.out.2.2.2.2.1.name hjm
              rw [HNe.out] at h6 hlc6
              unfold strV at hnm6
              rw [HNb.out] at hnm6
              go_wp2_with fail
              refine HG2.out.mono ?_
              rintro e w6 ⟨lv2, rfl, hr6, hA6, ht6, hb6⟩
              obtain ⟨q1, q2, q3⟩ := H5.out.2.2.2.2.2 w6 _ H5.out.2.1 ht6
              have HSm := Lib.hid (esame_self w6 lv lv2 _ q3.read hr6.read)
              have H6 := Lib.hid (And.intro q1 (And.intro hA6 (And.intro q2 (HAC.out.2.2.2.trans (H5.out.2.2.1.trans hb6)))))
              clear h6 hcm6 hlc6 hnm6 hr6 hA6 ht6 hb6 q1 q2 q3 HG2 H5 HAC
              generalize getM s' nb.data.toList = s2 at *
              generalize getL s' nb.data.toList = l2 at *
              generalize getE s' nb.data.toList = E2 at *
              go_wp2_with fail
              refine HSm.out.mono ?_
              rintro e w7 ⟨rfl, hb7⟩
              have H7 : Hid (∃ s', AIs w0.heap.size w7 S5 a s' ∧ AIs w0.heap.size w7 S3 b s' ∧ RAt w7 T w2.heap.size s ∧ Below w0.heap.size w0 w7) := Lib.hid ⟨s2, H6.out.1.below hb7, H6.out.2.1.below hb7, H6.out.2.2.1.below hb7, H6.out.2.2.2.trans (hb7.mono H6.out.2.2.2.size)⟩
              clear hb7 HSm H6
              go_wp2
              go_roundw
              case rel => exact ⟨j + 1, hjl, by go_num, H7⟩
              case measure => first | (simp [intOf]; done) | (simp [intOf]; omega)
    case pos =>
      obtain ⟨hlt, h300⟩ := hgo
      have hkl : k < xs.length := by rw [HL.out]; exact hlt
      obtain ⟨bb, o, rfl, g0, g1, g2, g3, g4⟩ := HK.out.at hkl
      have hok := HX.out.1 _ (List.getElem_mem hkl)
      have hup := HX.out.2 _ (List.getElem_mem hkl)
      have HC : Hid (∀ w', Below w0.heap.size w0 w' → w'.cell? ⟨bb, o + k * 5, none⟩ = some (.int .i64 xs[k].k) ∧ w'.cell? ⟨bb, o + k * 5 + 1, none⟩ = some (.string xs[k].nm) ∧ w'.cell? ⟨bb, o + k * 5 + 2, none⟩ = some (.int .i64 xs[k].x.k) ∧ w'.cell? ⟨bb, o + k * 5 + 3, none⟩ = some (.string xs[k].x.t) ∧ w'.cell? ⟨bb, o + k * 5 + 4, none⟩ = some (.string xs[k].x.v)) := Lib.hid (fun w' hb' => by
        have hbw := HFin.out w' hb'
        exact ⟨(hbw.cell (cell_lt g0)).trans g0, (hbw.cell (cell_lt g1)).trans g1, (hbw.cell (cell_lt g2)).trans g2, (hbw.cell (cell_lt g3)).trans g3, (hbw.cell (cell_lt g4)).trans g4⟩)
      obtain ⟨k0, k1, k2, k3, k4⟩ := HC.out wr hb
      have HD := Lib.hid (does_any _ wr S T a _ s xs[k] hA.both hok hup.2.1 hup.2.2)
      have HB := Lib.hid (And.intro hb hA)
      have HOk := Lib.hid hok
      have hP := hok.1
      clear g0 g1 g2 g3 g4 HA hA hb hok hup
      generalize xs[k] = d at *
      clear hkl
      go_wp2_with fail
      refine HD.out.mono ?_
      rintro e w3 ⟨rfl, hpo⟩
      obtain ⟨S4, T4, hB4, hC4, hb4, hnext⟩ := HB.out.2.step hpo
      have hb4' := HB.out.1.trans hb4
      clear k0 k1 k2 k3 k4
      obtain ⟨k0, k1, k2, k3, k4⟩ := HC.out w3 hb4'
      have HP := Lib.hid (fun (w' : World) => pick3_any d.k w' hP.1 hP.2)
      obtain ⟨P, hPe⟩ : ∃ P, pick3 d.k = P := ⟨_, rfl⟩
      have hPr := pick3_range d.k
      rw [hPe] at HP hPr
      have HC4 := Lib.hid hC4
      have HNx : Hid (∀ w', AnPo w0.heap.size w3 S3 b (deedM s d) w' → ∃ s S T S2, Three w0.heap.size w' S T S2 a w2.heap.size b s ∧ Below w0.heap.size w0 w') := Lib.hid (fun w' hp => by
        obtain ⟨S5, h5, h6⟩ := hnext w' hp
        exact ⟨_, _, _, _, h5, HB.out.1.trans h6⟩)
      have HPe := Lib.hid hPe
      clear HD hpo hB4 hC4 hb4 hb4' hnext HC hP hPe HB
      go_wp2_with fail
      refine (HP.out _).mono ?_
      rintro e w4 ⟨rfl, rfl⟩
      clear HP
      rcases hPr with rfl | rfl | rfl
      · have HO := Lib.hid (open_is HC4.out d.nm HOk.out.2.1)
        go_wp2_with fail
        refine HO.out.mono ?_
        rintro e w5 ⟨rfl, hp5⟩
        have HR : Hid (∃ s S T S2, Three w0.heap.size w5 S T S2 a w2.heap.size b s ∧ Below w0.heap.size w0 w5) := Lib.hid (HNx.out _ (by unfold deedM; rw [HPe.out, if_pos rfl]; exact hp5))
        clear hp5 HO k0 k1 k2 k3 k4
        go_wp2
        go_roundw
        case rel => exact ⟨k + 1, hlt, by go_num, HR⟩
        case measure => first | (simp [intOf]; done) | (simp [intOf]; omega)
      · have HO := Lib.hid (step_is HC4.out d.x HOk.out.2.2)
        go_wp2_with fail
        refine HO.out.mono ?_
        rintro e w5 ⟨rfl, hp5⟩
        have HR : Hid (∃ s S T S2, Three w0.heap.size w5 S T S2 a w2.heap.size b s ∧ Below w0.heap.size w0 w5) := Lib.hid (HNx.out _ (by unfold deedM; rw [HPe.out, if_neg (by decide), if_pos rfl]; exact hp5))
        clear hp5 HO k0 k1 k2 k3 k4
        go_wp2
        go_roundw
        case rel => exact ⟨k + 1, hlt, by go_num, HR⟩
        case measure => first | (simp [intOf]; done) | (simp [intOf]; omega)
      · have HO := Lib.hid (get_is HC4.out d.nm HOk.out.2.1)
        go_wp2_with fail
        refine HO.out.mono ?_
        rintro e w5 ⟨lv, rfl, _, hA5, ht5, hb5⟩
        have HR : Hid (∃ s S T S2, Three w0.heap.size w5 S T S2 a w2.heap.size b s ∧ Below w0.heap.size w0 w5) := Lib.hid (HNx.out _ (Three.deed_get HC4.out d HPe.out hA5 ht5 hb5))
        clear hA5 ht5 hb5 HO k0 k1 k2 k3 k4
        go_wp2
        go_roundw
        case rel => exact ⟨k + 1, hlt, by go_num, HR⟩
        case measure => first | (simp [intOf]; done) | (simp [intOf]; omega)
end Go.Proofs.YtkghdieakpipkaaGreatDoor
