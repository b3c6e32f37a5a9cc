/-
  The walk of SrcSteps.
-/
import Derived.Test.YtbebpodhkffonaaSrcN
import Derived.Test.YtbebpodhkffonaaSrcI
namespace Go.Proofs.Ytbebpodhkffonaa
open Go.RowKit
set_option maxRecDepth 100000

/-- The last element taken off: the value is cut, the row stays. -/
theorem ORow.pop {w : World} {base : Nat} {e : TypeId} {g n cap : Nat} {xs : List Value} {x : Value} (h : ORow w base e (.slice (some ⟨g, 0, none⟩) (n + 1) cap) (xs ++ [x])) : ORow w base e (.slice (some ⟨g, 0, none⟩) n cap) xs := by
  have hl : xs.length = n := by
    rcases h.form with ⟨hv, _⟩ | ⟨g', cap', hv, _⟩
    · cases hv
    · injection hv with _ h2 _
      simp at h2
      omega
  subst hl
  refine ⟨by simp, .inr ?_⟩
  rcases h.2 with ⟨hv, _⟩ | ⟨g', cap', cur, hv, hb, hh, hnc, hm, hs, ht⟩
  · cases hv
  · injection hv with h1 h2 h3
    injection h1 with h1
    injection h1 with h1
    subst h1 h3
    refine ⟨g, cap, cur, rfl, hb, hh, by simp at hnc; omega, hm, hs, ?_⟩
    have h4 : cur.toList.take (xs.length + 1) = xs ++ [x] := by simpa using ht
    have h5 := congrArg (List.take xs.length) h4
    rw [List.take_take, Nat.min_eq_left (by omega)] at h5
    simpa using h5

theorem str_size (l : List UInt8) : (⟨l.toArray⟩ : ByteArray).size = l.length := by simp [ByteArray.size]

set_option maxHeartbeats 2000000 in
theorem walk_SrcSteps (v0 : Value) (bs : List UInt8) (_hlen : bs.length ≤ 140737488355328) (w : World) (h0 : BRead w v0 bs) :
    Calls Try.prog 3 #[v0] w fun e w' => e = .returned (.bool true) ∧ Below w.heap.size w w' := by
  obtain ⟨A, c, rfl, hA⟩ := h0
  go_enter Try.func3, Try.ntmps3
  go_wp2_with (first
    | (go_at_call 10; refine (new_any _).mono ?_; rintro e w' ⟨rfl, rfl⟩))
  go_loopw [4, 5] (fun v i wr => ∃ (k : Nat) (own : List UInt8) (l lo hi : Int), k ≤ bs.length ∧ i = .int .i64 k ∧ ScanAt wr w.heap.size l lo hi ∧ ORow wr (w.heap.size + 1) 5 v (own.map bV) ∧ Below w.heap.size w wr ∧ PInv own l lo hi) (fun _ i _ => bs.length - (intOf i).toNat)
  case atStart => exact ⟨0, [], 0, 128, 191, Nat.zero_le _, rfl, Blk.new w _ _, ORow.nil _ _ _, (Below.refl _ _).alloc (Nat.le_refl _) _, .inl ⟨rfl, rfl, rfl, rfl⟩⟩
  case round =>
    obtain ⟨k, own, l, lo, hi, hk, rfl, hsc, hown, hbel, hinv⟩ := hrel
    by_cases hlt : k < bs.length
    · obtain ⟨ad, rfl, hca⟩ := hA (by omega)
      have hcw := hca k hlt
      have hcr : wr.cell? (ad.add k) = some (.int .u8 (bs[k].toNat : Int)) := (hbel.cell (cell_lt hcw)).trans hcw
      have hshort := hinv.short
      have hlr := hinv.l_range
      have hle := byte_le bs[k]
      have hbs := hbel.size
      have hscl := hsc.lt
      have hadl : (ad.add k).block < w.heap.size := cell_lt hcw
      clear hA hca
      go_wp2_with (first
        | (at_builtin; refine wp_app1 rfl _ _ 22 rfl (w.heap.size + 1) 5 (.int .u8 0) 1 Try.underlying22 Try.info5 rfl u4 _ _ rfl (by exact hown) rfl _ rfl (by simp [maxLen]; omega) (by simp; omega) (by omega) ?_; intro v1 w1 hown1 hb1 hn1))
      have hrow1 : ORow w1 (w.heap.size + 1) 5 v1 ((own ++ [bs[k]]).map bV) := by simpa [bV] using hown1
      have hs1 : ScanAt w1 w.heap.size l lo hi := Blk.grown hsc hb1 (hown.not_own (by omega))
      have hbel1 : Below w.heap.size w w1 := below_row hbel hb1 hown (by omega) (by omega)
      have hc1 : w1.cell? (ad.add k) = some (.int .u8 (bs[k].toNat : Int)) := (hbel1.cell hadl).trans hcw
      clear hown1 hb1 hn1 hown hsc hbel hcr
      obtain ⟨g1, cap1, rfl, hg1, hg1l, hcap1, hmax1⟩ : ∃ g cap, v1 = .slice (some ⟨g, 0, none⟩) (own.length + 1) cap ∧ w.heap.size + 1 ≤ g ∧ g < w1.heap.size ∧ own.length + 1 ≤ cap ∧ cap ≤ maxLen := by
        rcases hrow1.form with ⟨_, h⟩ | ⟨g, cap, h1, h2, h3, h4, h5⟩
        · simp at h
        · exact ⟨g, cap, by simpa using h1, h2, h3, by simpa using h4, h5⟩
      have hstr := put_str _ hrow1
      by_cases hok : stOk l lo hi bs[k].toNat = true
      · have HK := Lib.hid hok
        by_cases hz : stL l bs[k].toNat = 0
        · have hone := one_of_done bs[k] hinv hok hz
          have hds := done_state bs[k] hinv hz
          have hsz : (⟨(own ++ [bs[k]]).toArray⟩ : ByteArray).size = own.length + 1 := by rw [str_size]; simp
          have HS := Lib.hid hsz
          have HO := Lib.hid (show (oneL (⟨(own ++ [bs[k]]).toArray⟩ : ByteArray).data.toList).2 = (((⟨(own ++ [bs[k]]).toArray⟩ : ByteArray)).size : Int) by rw [hsz]; simpa using hone)
          have HZ := Lib.hid hz
          have HD := Lib.hid hds
          generalize hT : (⟨(own ++ [bs[k]]).toArray⟩ : ByteArray) = T at *
          have HT := Lib.hid hT
          clear hone hds hok hz hsz hT
          go_wp2_with fail
          first | rw [hstr] | skip
          go_wp2_with fail
          refine (Begins_whole _ _ (by rw [HS.out]; omega) (by rw [HS.out]; omega) HO.out).mono ?_
          rintro e w2 ⟨rfl, hb2⟩
          have hs2 : ScanAt w2 w.heap.size l lo hi := Blk.below hs1 hb2 hs1.lt
          have hrow2 := hrow1.below hb2 (fun g hg => (World.ownsRow.lt hrow1 g hg).2)
          have hbel2 := hbel1.trans (hb2.mono hbel1.size)
          have hc2 : w2.cell? (ad.add k) = some (.int .u8 (bs[k].toNat : Int)) := (hbel2.cell hadl).trans hcw
          clear hb2 hs1 hrow1 hbel1 hc1 hstr
          go_wp2_with fail
          refine (step_any _ _ _ _ _ _ hs2 hlr.1 hlr.2 (by omega) hle).mono ?_
          rintro e w3 ⟨rfl, hg3, hs3⟩
          rw [HK.out]
          rw [if_pos HK.out] at hs3
          have hrow3 := hrow2.kept_far hg3 (by omega)
          have hbel3 : Below w.heap.size w w3 := below_only hbel2 hg3 hbel2.size (Nat.le_refl _)
          clear hg3 hs2 hrow2 hbel2 hc2
          have hstr3 := put_str _ hrow3
          rw [HT.out] at hstr3
          go_wp2_with fail
          first | rw [hstr3] | skip
          go_wp2_with fail
          refine (one_any _ _ (by rw [HS.out]; omega)).mono ?_
          rintro e w' ⟨rfl, rfl⟩
          rw [HO.out]
          have hpos : (0 : Int) < (T.size : Int) := by rw [HS.out]; omega
          go_wp2_with fail
          refine (whole_any _ _ _ _ _ hs3).mono ?_
          rintro e w' ⟨rfl, rfl⟩
          rw [decide_eq_true HZ.out]
          go_wp2
          go_roundw
          case rel =>
            have hs4 : ScanAt w3 w.heap.size 0 128 191 := by
              have := hs3
              rw [HZ.out, HD.out.1, HD.out.2] at this
              exact this
            exact ⟨k + 1, [], 0, 128, 191, by omega, by go_num, hs4, ORow.nil _ _ _, hbel3, .inl ⟨rfl, rfl, rfl, rfl⟩⟩
          case measure => simp [intOf]; omega
        · have hp := pinv_step bs[k] hinv hok hz
          have hone := one_of_open hp
          have hf : own.length ≤ 3 ∧ stL l bs[k].toNat ≤ ((3 - own.length : Nat) : Int) := by
            have h1 := hp.short
            simp at h1
            rcases hp with ⟨h, _⟩ | ⟨c', t', num, h2, h3, _, _, h5, _⟩
            · simp at h
            · have : leadN c'.toNat ≤ 4 := by unfold leadN; repeat' split <;> omega
              simp at h5
              omega
          have hbeg := good_of_ok (3 - own.length) bs[k] hinv hok hf.2
          have HZ := Lib.hid hz
          have HP := Lib.hid hp
          clear hz hok hp hf
          have hsz : (⟨(own ++ [bs[k]]).toArray⟩ : ByteArray).size = own.length + 1 := by rw [str_size]; simp
          have HS := Lib.hid hsz
          have HO := Lib.hid (show (oneL (⟨(own ++ [bs[k]]).toArray⟩ : ByteArray).data.toList).2 = 0 by simpa using hone)
          have HB := Lib.hid (show begL (3 - own.length) (⟨(own ++ [bs[k]]).toArray⟩ : ByteArray).data.toList = true by simpa using hbeg)
          generalize hT : (⟨(own ++ [bs[k]]).toArray⟩ : ByteArray) = T at *
          have HT := Lib.hid hT
          clear hone hbeg hsz hT
          go_wp2_with fail
          first | rw [hstr] | skip
          go_wp2_with fail
          refine (Begins_open (3 - own.length) _ _ (by rw [HS.out]; omega) (by rw [HS.out]; omega) HO.out).mono ?_
          rintro e w2 ⟨rfl, hb2⟩
          rw [HB.out]
          have hs2 : ScanAt w2 w.heap.size l lo hi := Blk.below hs1 hb2 hs1.lt
          have hrow2 := hrow1.below hb2 (fun g hg => (World.ownsRow.lt hrow1 g hg).2)
          have hbel2 := hbel1.trans (hb2.mono hbel1.size)
          have hc2 : w2.cell? (ad.add k) = some (.int .u8 (bs[k].toNat : Int)) := (hbel2.cell hadl).trans hcw
          clear hb2 hs1 hrow1 hbel1 hc1 hstr
          go_wp2_with fail
          refine (step_any _ _ _ _ _ _ hs2 hlr.1 hlr.2 (by omega) hle).mono ?_
          rintro e w3 ⟨rfl, hg3, hs3⟩
          rw [HK.out]
          rw [if_pos HK.out] at hs3
          have hrow3 := hrow2.kept_far hg3 (by omega)
          have hbel3 : Below w.heap.size w w3 := below_only hbel2 hg3 hbel2.size (Nat.le_refl _)
          clear hg3 hs2 hrow2 hbel2 hc2
          have hstr3 := put_str _ hrow3
          rw [HT.out] at hstr3
          go_wp2_with fail
          first | rw [hstr3] | skip
          go_wp2_with fail
          refine (one_any _ _ (by rw [HS.out]; omega)).mono ?_
          rintro e w' ⟨rfl, rfl⟩
          rw [HO.out]
          go_wp2_with fail
          refine (whole_any _ _ _ _ _ hs3).mono ?_
          rintro e w' ⟨rfl, rfl⟩
          rw [decide_eq_false HZ.out]
          have hne : ((own.length : Int) + 1 == 0) = false := beq_eq_false_iff_ne.2 (by omega)
          go_wp2
          go_roundw
          case rel => exact ⟨k + 1, own ++ [bs[k]], _, _, _, by omega, by go_num, hs3, hrow3, hbel3, HP.out⟩
          case measure => simp [intOf]; omega
      · have hokf : stOk l lo hi bs[k].toNat = false := by simpa using hok
        have HK := Lib.hid hokf
        have hbad := bad_of_not bs[k] hinv hokf (3 - own.length)
        have hbeg := hbad.1
        have hone := hbad.2
        have hown0 := one_of_open hinv
        have HN := Lib.hid (show (oneL (⟨own.toArray⟩ : ByteArray).data.toList).2 = 0 by simpa using hown0)
        have hwh := hinv.whole
        have HW := Lib.hid hwh
        clear hok hokf hbad hown0 hwh
        have hsz : (⟨(own ++ [bs[k]]).toArray⟩ : ByteArray).size = own.length + 1 := by rw [str_size]; simp
        have HS := Lib.hid hsz
        have HO := Lib.hid (show (oneL (⟨(own ++ [bs[k]]).toArray⟩ : ByteArray).data.toList).2 = 0 by simpa using hone)
        have HB := Lib.hid (show begL (3 - own.length) (⟨(own ++ [bs[k]]).toArray⟩ : ByteArray).data.toList = false by simpa using hbeg)
        generalize hT : (⟨(own ++ [bs[k]]).toArray⟩ : ByteArray) = T at *
        have HT := Lib.hid hT
        clear hone hbeg hsz hT
        go_wp2_with fail
        first | rw [hstr] | skip
        go_wp2_with fail
        refine (Begins_open (3 - own.length) _ _ (by rw [HS.out]; omega) (by rw [HS.out]; omega) HO.out).mono ?_
        rintro e w2 ⟨rfl, hb2⟩
        rw [HB.out]
        have hs2 : ScanAt w2 w.heap.size l lo hi := Blk.below hs1 hb2 hs1.lt
        have hrow2 := hrow1.below hb2 (fun g hg => (World.ownsRow.lt hrow1 g hg).2)
        have hbel2 := hbel1.trans (hb2.mono hbel1.size)
        have hc2 : w2.cell? (ad.add k) = some (.int .u8 (bs[k].toNat : Int)) := (hbel2.cell hadl).trans hcw
        clear hb2 hs1 hrow1 hbel1 hc1 hstr
        go_wp2_with fail
        refine (step_any _ _ _ _ _ _ hs2 hlr.1 hlr.2 (by omega) hle).mono ?_
        rintro e w3 ⟨rfl, hg3, hs3⟩
        rw [HK.out]
        rw [if_neg (by rw [HK.out]; decide)] at hs3
        have hrow3 := hrow2.kept_far hg3 (by omega)
        have hbel3 : Below w.heap.size w w3 := below_only hbel2 hg3 hbel2.size (Nat.le_refl _)
        clear hg3 hs2 hrow2 hbel2 hc2
        have hrow4 : ORow w3 (w.heap.size + 1) 5 (.slice (some ⟨g1, 0, none⟩) own.length cap1) (own.map bV) := by
          refine ORow.pop (x := bV bs[k]) ?_
          simpa using hrow3
        have hstr4 := put_str _ hrow4
        have HSZ := Lib.hid (str_size own)
        go_wp2_with fail
        refine (one_any _ _ (by rw [HSZ.out]; omega)).mono ?_
        rintro e w' ⟨rfl, rfl⟩
        rw [show (oneL (⟨own.toArray⟩ : ByteArray).data.toList).2 = 0 from HN.out]
        clear hrow3 hstr4
        go_wp2_with fail
        refine (whole_any _ _ _ _ _ hs3).mono ?_
        rintro e w' ⟨rfl, rfl⟩
        rw [HW.out]
        rcases Nat.eq_zero_or_pos own.length with h0 | h0
        · have hb : ((own.length : Int) == 0) = true := beq_iff_eq.2 (by omega)
          rw [decide_eq_true h0]
          have H0 := Lib.hid h0
          clear h0
          go_wp2
          go_roundw
          case rel => exact ⟨k + 1, own, l, lo, hi, by omega, by go_num, hs3, hrow4, hbel3, hinv⟩
          case measure => simp [intOf]; omega
        · have hb : ((own.length : Int) == 0) = false := beq_eq_false_iff_ne.2 (by omega)
          rw [decide_eq_false (show ¬ own.length = 0 by omega)]
          go_wp2
          go_roundw
          case rel => exact ⟨k + 1, own, l, lo, hi, by omega, by go_num, hs3, hrow4, hbel3, hinv⟩
          case measure => simp [intOf]; omega
    · go_wp2_with (first
        | (go_at_call 15; refine (lives_any _).mono ?_; rintro e w3 ⟨rfl, hb3⟩))
      go_ret
      exact ⟨rfl, hbel.trans (hb3.mono hbel.size)⟩
end Go.Proofs.Ytbebpodhkffonaa
