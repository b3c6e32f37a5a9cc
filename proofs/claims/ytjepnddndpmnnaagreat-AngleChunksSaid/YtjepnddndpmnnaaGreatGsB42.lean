/-
  The walk of AngleChunks.
-/
import Derived.Test.YtjepnddndpmnnaaGreatGsB41
namespace Go.Proofs.YtjepnddndpmnnaaGreat
open Go.RowKit Go.Maps
set_option maxRecDepth 100000
set_option linter.unusedSimpArgs false
set_option linter.unusedVariables false
set_option linter.unusedSectionVars false
variable [Tab]

set_option maxHeartbeats 16000000 in
theorem walk_AngleChunks [fo : Fo] (v0 : Value) (bs : List UInt8) (_hlen : bs.length ≤ 140737488355328) (hcap : ∀ A n c, v0 = .slice A n c → n ≤ c) (cv : Value) (cuts : List Int) (hcl : cuts.length ≤ 140737488355328) (hcw : ∀ n ∈ cuts, (Lit.int .i64 n).wf = true) (asks : Bool) (w : World) (hfl : Fo.lim ≤ w.heap.size) (h0 : BRead w v0 bs) (h1 : IRead w cv cuts) :
    Calls Tryz.prog 4 #[v0, cv, .bool asks] w fun e w' => e = .returned (.bool true) ∧ Below w.heap.size w w' := by
  obtain ⟨A, c, rfl, hA⟩ := h0
  have hF := few_G w A c bs ⟨A, c, rfl, hA⟩ (hcap _ _ _ rfl)
  have HC1 := Lib.hid h1
  obtain ⟨CA, cc, rfl, -⟩ := h1
  have HCW := Lib.hid hcw
  obtain ⟨Nc, hNc⟩ : ∃ Nc, cuts.length = Nc := ⟨_, rfl⟩
  rw [hNc] at HC1 hcl ⊢
  have HNc := Lib.hid hNc
  clear hA hcw hNc
  go_enter Tryz.func4, Tryz.ntmps4
  go_wp2_with fail
  refine hF.mono ?_
  rintro e w' ⟨rfl, hR, rfl⟩
  have hts : (bs.take 600).length ≤ 600 := by rw [List.length_take]; omega
  have hLc0 : (bs.take 600).length ≤ c := by have := hcap _ _ _ rfl; rw [List.length_take]; omega
  generalize bs.take 600 = ts at *
  have hD := adecode_any w _ ts (by omega) hR hfl
  obtain ⟨Lt, hLt⟩ : ∃ Lt, ts.length = Lt := ⟨_, rfl⟩
  rw [hLt] at hR hD ⊢
  have HLt := Lib.hid hLt
  have hL6 : Lt ≤ 600 := by omega
  have hLc : Lt ≤ c := by omega
  have HR := Lib.hid hR
  obtain ⟨L, hL⟩ : ∃ L, aEv ts = L := ⟨_, rfl⟩
  obtain ⟨E, hE⟩ : ∃ E, aEr ts = E := ⟨_, rfl⟩
  obtain ⟨R, hRd⟩ : ∃ R, aRd ts = R := ⟨_, rfl⟩
  obtain ⟨Ln, hLn⟩ : ∃ Ln, L.length = Ln := ⟨_, rfl⟩
  rw [hL, hE, hRd] at hD
  -- what holds of a beginning of the text
  have hfacts : ∀ p, p ≤ Lt → (aBg ts p).b.l <+: L ∧ (aBg ts p).b.l.length < 5000 ∧ ((aBg ts p).e ≠ 0 → E = (aBg ts p).e ∧ R = (aBg ts p).rd) ∧ (aBg ts p).rd ≤ 600 ∧ SInv (aBg ts p) p := by
    intro p hp
    obtain ⟨g1, g2, g3, g4⟩ := @early_facts _ fo ts p (by omega)
    rw [hL] at g1
    rw [hE, hRd] at g3
    exact ⟨g1, show (aBeg ts p).b.l.length < 5000 by omega, fun h => ⟨(g3 h).1, (g3 h).2.1⟩, show (aBeg ts p).rd ≤ 600 by omega, aBg_sinv (by omega)⟩
  have HFc := Lib.hid hfacts
  have HD := Lib.hid hD
  have HLn := Lib.hid hLn
  have HLER := Lib.hid (And.intro hL (And.intro hE hRd))
  clear hF hR hD hts hLt hcap hL hE hRd hLn hfacts
  go_wp2_with fail
  refine HD.out.mono ?_
  rintro e w1 ⟨lv, rfl, hRow, hb1⟩
  have HRow := Lib.hid hRow
  obtain ⟨Al, cl, rfl⟩ := hRow.shape
  rw [HLn.out] at HRow ⊢
  have HB1 := Lib.hid hb1
  have HNw := Lib.hid (@aglnew_any _ (Fo.nt fo) w1 (Nat.le_trans hfl hb1.size) rfl)
  clear hRow hb1 HD
  go_wp2_with fail
  refine HNw.out.mono ?_
  rintro e w3 ⟨d, B, s, m, sc, o, ck, rfl, hDd, hdw, hb3, w2, hA2, hw2d, hb23⟩
  have hfu : ∀ k, (Value.slice none 0 0).ownBlock = some k → k = d := fun k hk => by cases hk
  have hr0 : ERow w3 w1.heap.size (.slice none 0 0) ((aBg ts 0).b.l.take 0) := by rw [List.take_zero]; exact ERow.nil _ _
  let f2 : Fo := ⟨fun k => k = d, d + 1, fun k hk => by omega, none⟩
  have hSt0 := gsta_fo (f1 := Fo.nt fo) (f2 := f2) (fun k hk hc => absurd (show k = d from hc) (by omega)) rfl hb23 hDd.lt hA2
  have hS3 : ChE w3 w1.heap.size d B s m sc o ck (aBg ts 0) (.slice none 0 0) 0 false := ⟨f2, @ChS.mk _ f2 w3 w1.heap.size d B s m sc o ck (aBg ts 0) (.slice none 0 0) 0 false rfl hfu rfl (Nat.zero_le _) hSt0 hr0 hDd⟩
  have HS3 := Lib.hid hS3
  have HB3 := Lib.hid hb3
  clear hS3 hSt0 hr0 hb3 hA2 hb23 hDd hdw hw2d HNw
  have HRS : Hid (∀ W, Below w.heap.size w W → BRead W (.slice A (Lt - 0) c) (ts.drop 0)) := Lib.hid (fun W hb => HR.out.below hb)
  go_wp2
  go_loopw [11, 12, 13] (fun u rv i wr => ∃ (q p n : Nat) (en : Bool) (RA : Option Addr) (rc : Nat), i = .int .i64 q ∧ q ≤ Nc ∧ p ≤ Lt ∧ rv = .slice RA (Lt - p) rc ∧ Lt - p ≤ rc ∧ Hid (∀ W, Below w.heap.size w W → BRead W (.slice RA (Lt - p) rc) (ts.drop p)) ∧ Hid (ChE wr w1.heap.size d B s m sc o ck (aBg ts p) u n en) ∧ Hid (Below w1.heap.size w1 wr) ∧ Hid (en = true → (aBg ts p).e ≠ 0)) (fun _ _ i _ => Nc - (intOf i).toNat)
  case atStart => exact ⟨0, 0, 0, false, A, c, rfl, Nat.zero_le _, Nat.zero_le _, rfl, hLc, HRS, HS3, HB3, Lib.hid (fun h => by cases h)⟩
  case round =>
    obtain ⟨q, p, n, en, RA, rc, rfl, hq, hp, rfl, hrc, HRR, HCh, HB, HEn⟩ := hrel
    clear HRS HS3 HB3
    by_cases hlt : q < Nc
    case pos =>
      obtain ⟨ad, a0, hca, hck, hwf⟩ : ∃ (ad : Addr) (a0 : Int), CA = some ad ∧ wr.cell? (ad.add q) = some (.int .i64 a0) ∧ (Lit.int .i64 a0).wf = true := by
        obtain ⟨A', c', e, hr⟩ := HC1.out.belowP (HB1.out.trans (HB.out.mono HB1.out.size))
        injection e with e1 _ _
        have hql : q < cuts.length := by rw [HNc.out]; exact hlt
        obtain ⟨ad, h1, h2⟩ := hr (by omega)
        exact ⟨ad, _, e1.trans h1, h2 q hql, HCW.out _ (List.getElem_mem _)⟩
      subst hca
      have hlo : -9223372036854775808 ≤ a0 ∧ a0 ≤ 9223372036854775807 := by
        simp [Lit.wf, IntKind.min, IntKind.max, IntKind.signed, IntKind.bits] at hwf
        omega
      obtain ⟨hlo, hhi⟩ := hlo
      obtain ⟨Rl, hRl⟩ : ∃ Rl, Lt - p = Rl := ⟨_, rfl⟩
      rw [hRl] at hrc HRR ⊢
      have hpR : p + Rl = Lt := by omega
      have hR6 : Rl ≤ 600 := by omega
      have hdl : (ts.drop p).length = Rl := by rw [List.length_drop, HLt.out]; omega
      have hRest := HRR.out wr (HB1.out.trans (HB.out.mono HB1.out.size))
      have hK : ∀ q : Int, (q = if a0 < 0 then -(a0 + 1) else a0) → q.tmod ((Rl : Int) + 1) = (placeN a0 (Rl + 1) : Int) := fun q hq => by
        have := placeN_mod (a := a0) (n := Rl + 1) q hq (Nat.succ_pos _)
        rwa [show ((Rl + 1 : Nat) : Int) = (Rl : Int) + 1 from by omega] at this
      have hKl := placeN_lt a0 (Nat.succ_pos Rl)
      obtain ⟨K, hKK⟩ : ∃ K, placeN a0 (Rl + 1) = K := ⟨_, rfl⟩
      rw [hKK] at hK
      replace hKl : K ≤ Rl := by
        have : placeN a0 (Rl + 1) < Rl + 1 := hKl
        omega
      have HK := Lib.hid hK
      have hKc : ¬ rc < K := by omega
      have zl : ((Rl : Int) + 1 == 0) = false := by rw [beq_eq_false_iff_ne]; omega
      have zl2 : ¬ ((Rl : Int) + 1 = 0) := by omega
      have hcase : (a0 ≤ -1 ∧ decide (a0 < 0) = true ∧ (a0 + 1).tmod ((Rl : Int) + 1) = -(K : Int)) ∨ (0 ≤ a0 ∧ decide (a0 < 0) = false ∧ a0.tmod ((Rl : Int) + 1) = (K : Int)) := by
        by_cases hn : a0 < 0
        · left
          have h := HK.out _ (by rw [if_pos hn])
          rw [Int.neg_tmod] at h
          exact ⟨by omega, by simpa using hn, by omega⟩
        · right
          exact ⟨by omega, by simpa using hn, HK.out _ (by rw [if_neg hn])⟩
      have hXr := bread_first hRest hdl hKl
      have hXl : ((ts.drop p).take K).length = K := by rw [List.length_take, hdl]; omega
      have hadd := aBg_add ts p K
      obtain ⟨X, hX⟩ : ∃ X, (ts.drop p).take K = X := ⟨_, rfl⟩
      rw [hX] at hXr hXl hadd
      have HXr := Lib.hid hXr
      have HXl := Lib.hid hXl
      have HAdd := Lib.hid hadd
      have HP := Lib.hid (And.intro hpR (And.intro hKl hdl))
      clear hwf hRl hRest hK hKK HK hX hXr hXl hadd hdl hpR
      rcases hcase with ⟨hsg, z, hm⟩ | ⟨hsg, z, hm⟩
      all_goals
        go_wp2_with (first
          | (at_builtin; refine wp_appT rfl _ _ 22 rfl w1.heap.size 5 Tryz.underlying22 Tryz.info5 _ _ [] X rfl (ORow.nil _ _ _) rfl HXr.out (by have := HXl.out; simp; omega) HB.out.size ?_; intro ov w4 hown4 hg4 hnb4; obtain ⟨d4, hdl4⟩ := HCh.out.cell hg4))
        obtain ⟨f, hS⟩ := HCh.out
        have hown : w4.ownsRow w1.heap.size 5 1 ov K (X.map bV) := by
          have h := hown4
          unfold ORow at h
          rw [List.nil_append, List.length_map, HXl.out] at h
          exact h
        obtain ⟨A4, c4, hov, hA4⟩ := rowX_shape hown
        subst hov
        obtain ⟨f4, hC⟩ := hS.withOwn hown hg4 hnb4
        have hFd := ch_feed (f := f4) (bytes := X) (N := p) (by rw [HXl.out]; exact hC) (HFc.out p hp).2.2.2.2 (by have := HXl.out; omega)
        have hee : @feedG (@agP _ f4) (aBg ts p) X = aBg ts (p + K) := HAdd.out.symm
        rw [hee, HXl.out] at hFd
        have HF := Lib.hid hFd
        have HB4 := Lib.hid (HB.out.trans (below_gr (ORow.nil wr w1.heap.size 5) hg4 HB.out.size))
        clear hee hFd hC hS hown hown4 hg4 hnb4 z hm
        go_wp2_with fail
        refine HF.out.mono ?_
        rintro e w5 ⟨rfl, hC5, hb5⟩
        have HC5 : Hid (ChO w5 w1.heap.size d B s m sc o ck (aBg ts (p + K)) u11 n en (.slice A4 K c4) K (X.map bV)) := Lib.hid ⟨f4, hC5⟩
        have HB5 := Lib.hid (HB4.out.trans hb5)
        clear hC5 hb5 HF HB4 d4 hdl4 hck
        go_wp2
        go_loopw [16] (fun j wr2 => ∃ (jn : Nat) (cs : List Value), jn ≤ K ∧ j = .int .i64 jn ∧ Hid (ChO wr2 w1.heap.size d B s m sc o ck (aBg ts (p + K)) u11 n en (.slice A4 K c4) K cs) ∧ Hid (Below w1.heap.size w1 wr2)) (fun j _ => K - (intOf j).toNat)
        case atStart => exact ⟨0, _, Nat.zero_le _, rfl, HC5, HB5⟩
        case round =>
          obtain ⟨jn, cs, hj, rfl, HO, HBo⟩ := hrel
          clear HC5 HB5
          by_cases hlj : jn < K
          case pos =>
            obtain ⟨g, hG⟩ := HO.out
            have hY := hG.own
            obtain ⟨r1, rfl⟩ := hA4 (by omega)
            obtain ⟨u0, e0⟩ := row_get hY (i := jn) (by omega)
            obtain ⟨hr1, hr2, hr3, hr4, _, hfz, _⟩ := rowN_block hY
            have hcm : c4 ≤ 9223372036854775807 := by simpa [maxLen] using hr4
            have f0 := hfz jn
            have HY : Hid (ChO (wr.setCell ⟨r1, jn, none⟩ (.int .u8 120)) w1.heap.size d B s m sc o ck (aBg ts (p + K)) u11 n en (.slice (some ⟨r1, 0, none⟩) K c4) K (cs.set jn (.int .u8 120)) ∧ Below w1.heap.size w1 (wr.setCell ⟨r1, jn, none⟩ (.int .u8 120))) := Lib.hid ⟨⟨g, hG.store rfl (.int .u8 120) (rowN_set hY jn (.int .u8 120))⟩, HBo.out.setCell (p := ⟨r1, jn, none⟩) hr1 (.int .u8 120)⟩
            clear hY hfz hG
            go_wp2
            go_roundw
            case rel => exact ⟨jn + 1, _, hlj, by go_num, Lib.hid HY.out.1, Lib.hid HY.out.2⟩
            case measure => first | (simp [intOf]; done) | (simp [intOf]; omega)
          case neg =>
            have hje : K = jn := by omega
            subst hje
            obtain ⟨g, hG⟩ := HO.out
            have hCE : ChE wr w1.heap.size d B s m sc o ck (aBg ts (p + K)) u11 n en := ⟨g, hG.c⟩
            obtain ⟨hpR, hKl, hdl⟩ := HP.out
            have HRN : Hid (∀ W, Below w.heap.size w W → BRead W (.slice (if rc = K then RA else Option.map (fun x => x.add K) RA) (Rl - K) (rc - K)) (ts.drop (p + K))) := Lib.hid (fun W hb => by
              have h := bread_rest (A' := if rc = K then RA else Option.map (fun x => x.add K) RA) (HRR.out W hb) hdl hKl (fun ad e hlt => by rw [if_neg (by omega), e]; rfl) (rc - K)
              rwa [List.drop_drop] at h)
            have HEn2 : Hid (en = true → (aBg ts (p + K)).e ≠ 0) := Lib.hid (fun he => by
              have h0 := HEn.out he
              rw [HAdd.out, feedG_stop h0]
              exact h0)
            have hLK : Rl - K = Lt - (p + K) := by omega
            have hpK : p + K ≤ Lt := by omega
            have HLK := Lib.hid hLK
            have hrcK : Rl - K ≤ rc - K := by omega
            have HBo' := Lib.hid HBo.out
            clear hG HO hpR hdl HXr hA4 HRR HEn hLK hlj hj
            cases asks with
            | false =>
              have HCE := Lib.hid hCE
              clear hCE
              go_wp2
              go_roundw
              case rel => exact ⟨q + 1, p + K, n, en, _, rc - K, by go_num, hlt, hpK, by rw [HLK.out], by rw [← HLK.out]; exact hrcK, by rw [← HLK.out]; exact HRN, HCE, HBo', HEn2⟩
              case measure => first | (simp [intOf]; done) | (simp [intOf]; omega)
            | true =>
              obtain ⟨hpre, hl5, herr, hrd6, -⟩ := HFc.out (p + K) hpK
              obtain ⟨y, hy⟩ : ∃ y, aBg ts (p + K) = y := ⟨_, rfl⟩
              rw [hy] at hpre hl5 herr hrd6 hCE
              obtain ⟨l, hl⟩ : ∃ l : List Ev, y.b.l = l := ⟨_, rfl⟩
              obtain ⟨e1, he1⟩ : ∃ e1, y.e = e1 := ⟨_, rfl⟩
              obtain ⟨r1, hr1⟩ : ∃ r1, y.rd = r1 := ⟨_, rfl⟩
              obtain ⟨n1, hn1⟩ : ∃ n1, l.length = n1 := ⟨_, rfl⟩
              rw [hl] at hpre hl5
              rw [he1, hr1] at herr
              rw [hr1] at hrd6
              have hTk := ch_takesE hCE l e1 hl he1 hl5
              obtain ⟨N, hN⟩ : ∃ N, NxS e1 false = N := ⟨_, rfl⟩
              rw [hN, hn1] at hTk
              have hN3 : N ≠ 3 := by
                rw [← hN]; unfold NxS
                by_cases h0 : e1 = 0 <;> simp [h0]
              have zN3 : (N == 3) = false := by rw [beq_eq_false_iff_ne]; exact hN3
              have hfin : (e1 = 0 ∧ N = 2) ∨ (e1 ≠ 0 ∧ N = 4 ∧ E = e1 ∧ R = r1) := by
                by_cases h0 : e1 = 0
                · left
                  exact ⟨h0, by rw [← hN, h0]; rfl⟩
                · right
                  exact ⟨h0, by rw [← hN]; exact if_pos h0, herr h0⟩
              have hn5 : n1 ≤ Ln := by rw [← hn1, ← HLn.out]; exact hpre.length_le
              have zg : decide ((Ln : Int) < (n1 : Int)) = false := by simp; omega
              have zg' : decide ((n1 : Int) > (Ln : Int)) = false := by simp; omega
              have hpl : l = L.take n1 := by
                have := List.prefix_iff_eq_take.1 hpre
                rwa [hn1] at this
              have HTk := Lib.hid hTk
              have HY := Lib.hid (And.intro hy (And.intro he1 hr1))
              have HN1 := Lib.hid hn1
              have HPl := Lib.hid hpl
              have HFin := Lib.hid hfin
              obtain ⟨dd0, ddl⟩ := hCE.dec
              clear hTk hy hl he1 hr1 hn1 hN hpre hl5 herr hpl hfin hN3 hCE
              have hXX : (rc = K ∧ Hid (∀ W, Below w.heap.size w W → BRead W (.slice RA (Lt - (p + K)) 0) (ts.drop (p + K))) ∧ Hid (Lt - (p + K) ≤ 0)) ∨ (¬ rc = K ∧ Hid (∀ W, Below w.heap.size w W → BRead W (.slice (Option.map (fun x => x.add K) RA) (Lt - (p + K)) (rc - K)) (ts.drop (p + K))) ∧ Hid (Lt - (p + K) ≤ rc - K)) := by
                by_cases hrk : rc = K
                · left
                  have h := HRN.out
                  rw [if_pos hrk, HLK.out, hrk, Nat.sub_self] at h
                  exact ⟨hrk, Lib.hid h, Lib.hid (by have := HLK.out; omega)⟩
                · right
                  have h := HRN.out
                  rw [if_neg hrk, HLK.out] at h
                  exact ⟨hrk, Lib.hid h, Lib.hid (by have := HLK.out; omega)⟩
              clear HRN hrcK
              rcases hXX with ⟨hrk, HRX, HRC⟩ | ⟨hrk, HRX, HRC⟩
              all_goals
                go_wp2_with fail
                refine HTk.out.mono ?_
                rintro e w6 ⟨u', rfl, hC6, hrow6, hb6⟩
                obtain ⟨A6, c6, hu6⟩ := hrow6.shape
                subst hu6
                rw [HN1.out] at hC6 hrow6 ⊢
                have hb16 : Below w1.heap.size w1 w6 := HBo'.out.trans hb6
                have hwr0 : ERow w6 w.heap.size (.slice Al Ln cl) L := HRow.out.below hb16
                obtain ⟨hwr, hcl'⟩ := eread_first hwr0.read HLn.out hn5
                have hSm := esame_any w6 (.slice A6 n1 c6) (.slice Al n1 cl) l (L.take n1) hrow6.read hwr
                rw [decide_eq_true HPl.out] at hSm
                have HSm := Lib.hid hSm
                have HC6 := Lib.hid hC6
                have HB6 := Lib.hid hb16
                have hcn : ¬ cl < n1 := by omega
                clear hwr0 hwr hSm hC6 hrow6 hb6 hb16 HTk dd0 ddl hcl'
                go_wp2_with fail
                refine HSm.out.mono ?_
                rintro e w7 ⟨rfl, hb7⟩
                have hC7 := HC6.out.below hb7
                have HB7 := Lib.hid (HB6.out.trans (hb7.mono HB6.out.size))
                obtain ⟨dd7, ddl7⟩ := hC7.dec
                have hEd := ch_endE hC7 HY.out.2.1 HY.out.2.2 (by omega)
                have HC7 := Lib.hid hC7
                clear hC7 hb7 HSm HC6 HB6
                rcases HFin.out with ⟨rfl, rfl⟩ | ⟨h0, rfl, rfl, rfl⟩
                · have hen : en = false := by
                    cases en with
                    | false => rfl
                    | true => exact absurd (by rw [HY.out.1, HY.out.2.1]) (HEn2.out rfl)
                  subst hen
                  have HEd := Lib.hid hEd
                  clear hEd
                  go_wp2_with fail
                  refine HEd.out.mono ?_
                  rintro e w8 ⟨rfl, n8, rfl⟩
                  have HC8 : Hid (ChE (w7.drewN n8) w1.heap.size d B s m sc o ck (aBg ts (p + K)) (.slice A6 n1 c6) n1 false) := Lib.hid (by rw [HY.out.1]; exact HC7.out.below (below_drewN (Below.refl _ _) n8))
                  have HB8 := Lib.hid (below_drewN HB7.out n8)
                  clear HC7 HEd dd7 ddl7
                  generalize w7.drewN n8 = w8 at *
                  go_wp2
                  go_roundw
                  case rel => exact ⟨q + 1, p + K, n1, false, _, _, by go_num, hlt, hpK, by rw [HLK.out], HRC.out, HRX, HC8, HB8, Lib.hid (fun h => by cases h)⟩
                  case measure => first | (simp [intOf]; done) | (simp [intOf]; omega)
                · rw [show (en || decide ((4 : Int) ≠ 2)) = true by simp] at hEd HC7
                  rw [if_pos rfl, if_pos rfl] at hEd
                  have HEd := Lib.hid hEd
                  have H0 := Lib.hid h0
                  clear hEd h0
                  go_wp2_with fail
                  refine HEd.out.mono ?_
                  rintro e w8 ⟨rfl, n8, rfl⟩
                  have HC8 : Hid (ChE (w7.drewN n8) w1.heap.size d B s m sc o ck (aBg ts (p + K)) (.slice A6 n1 c6) n1 true) := Lib.hid (by rw [HY.out.1]; exact HC7.out.below (below_drewN (Below.refl _ _) n8))
                  have HB8 := Lib.hid (below_drewN HB7.out n8)
                  clear HC7 HEd dd7 ddl7
                  generalize w7.drewN n8 = w8 at *
                  go_wp2
                  go_roundw
                  case rel => exact ⟨q + 1, p + K, n1, true, _, _, by go_num, hlt, hpK, by rw [HLK.out], HRC.out, HRX, HC8, HB8, Lib.hid (fun _ => by rw [HY.out.1, HY.out.2.1]; exact H0.out)⟩
                  case measure => first | (simp [intOf]; done) | (simp [intOf]; omega)
    case neg =>
      have hqe : q = Nc := by omega
      have hdl : (ts.drop p).length = Lt - p := by rw [List.length_drop, HLt.out]
      have hz : feedG (aBg ts p) (ts.drop p) = aBg ts Lt := by
        have h := aBg_add ts p (Lt - p)
        rw [show p + (Lt - p) = Lt by omega, ← hdl, List.take_length] at h
        exact h.symm
      obtain ⟨-, -, -, hrdA, hsiA⟩ := HFc.out Lt (Nat.le_refl _)
      have hE2 : closeE (aBg ts Lt) = E := by rw [aBg_all HLt.out]; exact HLER.out.2.1
      have hR2 : (aBg ts Lt).rd = R := by rw [aBg_all HLt.out]; exact HLER.out.2.2
      have hL2 : (closeBs (aBg ts Lt)).l = L := by rw [aBg_all HLt.out]; exact HLER.out.1
      have hL5 : L.length < 5000 := by
        obtain ⟨f0, _⟩ := text_facts (@agW _ fo) ts
        have h : L.length ≤ 4 * ts.length + 8 := by rw [← HLER.out.1]; exact f0
        rw [HLt.out] at h
        omega
      rw [hR2] at hrdA
      have HFd := Lib.hid (ch_feedE HCh.out hz (HFc.out p hp).2.2.2.2 (by omega) (fun w' hb => HRR.out w' (HB1.out.trans ((HB.out.trans hb).mono HB1.out.size))))
      have HX := Lib.hid (And.intro hsiA (And.intro hE2 (And.intro hR2 (And.intro hL2 (And.intro hL5 hrdA)))))
      obtain ⟨dd0, ddl⟩ := HCh.out.dec
      clear hdl hz hsiA hrdA hE2 hR2 hL2 hL5
      go_wp2_with fail
      refine HFd.out.mono ?_
      rintro e w5 ⟨rfl, hC5, hb5⟩
      obtain ⟨dd5, ddl5⟩ := hC5.dec
      have HCl := Lib.hid (ch_closeE hC5 HX.out.1 (by omega) HX.out.2.1 HX.out.2.2.1 HX.out.2.2.2.1)
      have HB5 := Lib.hid (HB.out.trans hb5)
      clear hC5 hb5 HFd dd0 ddl HCh HRR
      go_wp2_with fail
      refine HCl.out.mono ?_
      rintro e w6 ⟨rfl, ⟨f6, st6, hZ⟩, hb6⟩
      have HB6 := Lib.hid (HB5.out.trans hb6)
      have HTk := Lib.hid (ch_takesZ hZ HX.out.2.2.2.2.1 HB6.out.size)
      have dd6 : w6.cell? ⟨d, 0, none⟩ = some (.pointer (some ⟨s, 0, none⟩)) := hZ.dec.cell 0
      have ddl6 := hZ.dec.lt
      clear hZ hb6 HCl dd5 ddl5 HB5
      go_wp2_with fail
      refine HTk.out.mono ?_
      rintro e w7 ⟨u', rfl, hrow7, hdb7, hsb7, ho7, hb7⟩
      obtain ⟨A7, c7, hu7⟩ := hrow7.shape
      subst hu7
      rw [HLn.out] at hrow7 ⊢
      have dd7 : w7.cell? ⟨d, 0, none⟩ = some (.pointer (some ⟨s, 0, none⟩)) := hdb7.cell 0
      have ddl7 := hdb7.lt
      have hEn := endOf_any w7 s _ m sc o E R true true hsb7 ho7 (by have := HX.out.2.2.2.2.2; omega)
      rw [if_pos rfl, if_pos rfl] at hEn
      have HEn7 := Lib.hid hEn
      have HB7 := Lib.hid (HB6.out.trans hb7)
      have HRow7 := Lib.hid hrow7
      have HSb7 := Lib.hid (And.intro hsb7 hdb7)
      clear hEn hrow7 hdb7 hsb7 ho7 hb7 HTk dd6 ddl6 HB6
      go_wp2_with fail
      refine HEn7.out.mono ?_
      rintro e w8 ⟨rfl, n8, rfl⟩
      have hb8 := below_drewN HB7.out n8
      have hb78 : Below w7.heap.size w7 (w7.drewN n8) := below_drewN (Below.refl _ _) n8
      have hrow8 := HRow7.out.below hb78
      have hwr8 : ERow (w7.drewN n8) w.heap.size (.slice Al Ln cl) L := HRow.out.below hb8
      have hSm := esame_any (w7.drewN n8) (.slice A7 Ln c7) (.slice Al Ln cl) L L hrow8.read hwr8.read
      rw [show decide (L = L) = true by simp] at hSm
      have HSm := Lib.hid hSm
      have HB8 := Lib.hid hb8
      have HSb8 := Lib.hid (And.intro (HSb7.out.1.below hb78 HSb7.out.1.lt) (HSb7.out.2.below hb78 HSb7.out.2.lt))
      clear hb8 hrow8 hwr8 hSm HEn7 HB7 HSb7 HRow7 hb78 dd7 ddl7
      generalize w7.drewN n8 = w8 at *
      go_wp2_with fail
      refine HSm.out.mono ?_
      rintro e w9 ⟨rfl, hb9⟩
      have HB9 := Lib.hid (HB8.out.trans (hb9.mono HB8.out.size))
      have HSb9 := Lib.hid (And.intro (HSb8.out.1.below hb9 HSb8.out.1.lt) (HSb8.out.2.below hb9 HSb8.out.2.lt))
      have dd9 : w9.cell? ⟨d, 0, none⟩ = some (.pointer (some ⟨s, 0, none⟩)) := HSb9.out.2.cell 0
      have ddl9 := HSb9.out.2.lt
      clear hb9 HSm HB8 HSb8
      have hcv := Lib.run_convert_bytes_const (P := Tryz.prog) w9 22 5 #[.int .u8 120] 1 1 Tryz.underlying22 Tryz.underlying5
      simp only [List.size_toArray, List.length_cons, List.length_nil, Nat.zero_add, Nat.reduceAdd] at hcv
      by_cases hE0 : E = 0
      · subst hE0
        rw [show NxS 0 true = 3 from rfl]
        go_wp2_with fail
        refine (feed_closed _ s _ m sc o 0 R true _ (by first | exact HSb9.out.1.alloc _ | exact HSb9.out.1)).mono ?_
        rintro e w10 ⟨rfl, rfl⟩
        have hb10 : Below w1.heap.size w1 (w9.alloc (.cells #[.int .u8 120] 5 (1, 2))) := HB9.out.alloc HB9.out.size _
        have HLv := Lib.hid (@lives_G inferInstance fo (w9.alloc (.cells #[.int .u8 120] 5 (1, 2))) (Nat.le_trans hfl (HB1.out.trans (hb10.mono HB1.out.size)).size))
        have HB10 := Lib.hid (HB1.out.trans (hb10.mono HB1.out.size))
        clear hb10 HSb9 dd9 ddl9 hcv
        generalize w9.alloc (.cells #[.int .u8 120] 5 (1, 2)) = w11 at *
        go_wp2_with fail
        refine HLv.out.mono ?_
        rintro e w12 ⟨rfl, hb12⟩
        have HB12 := Lib.hid (HB10.out.trans (hb12.mono HB10.out.size))
        clear hb12 HLv
        go_wp2
        go_ret
        exact ⟨rfl, HB12.out⟩
      · have zE : (E == 0) = false := by rw [beq_eq_false_iff_ne]; exact hE0
        have zE2 : (E != 0) = true := by simp [bne, zE]
        rw [show NxS E true = 4 from if_pos hE0]
        go_wp2_with fail
        refine (feed_closed _ s _ m sc o E R true _ (by first | exact HSb9.out.1.alloc _ | exact HSb9.out.1)).mono ?_
        rintro e w10 ⟨rfl, rfl⟩
        have hb10 : Below w1.heap.size w1 (w9.alloc (.cells #[.int .u8 120] 5 (1, 2))) := HB9.out.alloc HB9.out.size _
        have HLv := Lib.hid (@lives_G inferInstance fo (w9.alloc (.cells #[.int .u8 120] 5 (1, 2))) (Nat.le_trans hfl (HB1.out.trans (hb10.mono HB1.out.size)).size))
        have HB10 := Lib.hid (HB1.out.trans (hb10.mono HB1.out.size))
        clear hb10 HSb9 dd9 ddl9 hcv
        generalize w9.alloc (.cells #[.int .u8 120] 5 (1, 2)) = w11 at *
        go_wp2_with fail
        refine HLv.out.mono ?_
        rintro e w12 ⟨rfl, hb12⟩
        have HB12 := Lib.hid (HB10.out.trans (hb12.mono HB10.out.size))
        clear hb12 HLv
        go_wp2
        go_ret
        exact ⟨rfl, HB12.out⟩
end Go.Proofs.YtjepnddndpmnnaaGreat
