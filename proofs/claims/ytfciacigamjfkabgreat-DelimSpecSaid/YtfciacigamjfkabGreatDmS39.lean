/-
  The reference's Spec: its walk.
-/
import Derived.Test.YtfciacigamjfkabGreatDmS36
namespace Go.Proofs.YtfciacigamjfkabGreat
open Go.RowKit Go.Maps
set_option maxRecDepth 100000
set_option linter.unusedSimpArgs false
set_option linter.unusedVariables false
set_option linter.unusedSectionVars false
variable [Tab] [Fo]

theorem row_dnT {w : World} {b b' : Nat} {e : TypeId} {size n : Nat} {v : Value} {xs : List Value} (hR : w.ownsRow b' e size v n xs) (hb : b ≤ b') : w.ownsRow b e size v n xs := by
  refine ⟨hR.1, ?_⟩
  rcases hR.2 with hn | ⟨g', cap', cur, hv, hg', hh, q⟩
  · exact .inl hn
  · exact .inr ⟨g', cap', cur, hv, Nat.le_trans hb hg', hh, q⟩
theorem headF_at (x : Tx) : ∀ (k : Nat) (ns : List (List UInt8)) (a : Nat), a ≤ x.s.length → (headF x k ns a).at' ≤ x.s.length + 1
  | 0, ns, a, h => by simp only [headF]; omega
  | k + 1, ns, a, h => by
    have hc := cellR_at { x with at' := a } h
    have hc2 : (cellR { x with at' := a }).at' ≤ x.s.length := hc.2
    unfold headF
    split
    · show (cellR { x with at' := a }).at' ≤ _; omega
    · split
      · show (cellR { x with at' := a }).at' ≤ _; omega
      · split
        · show (cellR { x with at' := a }).at' + 1 ≤ _; omega
        · rename_i hq
          split
          · show (cellR { x with at' := a }).at' ≤ _; omega
          · refine headF_at x k _ _ ?_
            have hq' : isX { x with at' := (cellR { x with at' := a }).at' } 44 = true := by simpa using hq
            obtain ⟨hl, _⟩ := isX_true hq'
            have hl2 : (cellR { x with at' := a }).at' < x.s.length := hl
            omega
theorem headF_ne (x : Tx) : ∀ (k : Nat) (ns : List (List UInt8)) (a : Nat), ns.length + k ≤ 8 → (headF x k ns a).e = 0 → (headF x k ns a).ns ≠ [] ∧ (headF x k ns a).ns.length ≤ 8
  | 0, ns, a, _, h => by simp only [headF] at h; exact absurd h (by decide)
  | k + 1, ns, a, hk, h => by
    unfold headF at h ⊢
    by_cases h1 : (cellR { x with at' := a }).e ≠ 0
    · rw [if_pos h1] at h; exact absurd h h1
    · rw [if_neg h1] at h ⊢
      by_cases h2 : (cellR { x with at' := a }).out ∈ ns
      · rw [if_pos h2] at h; exact absurd h (by show ¬ (6 : Int) = 0; decide)
      · rw [if_neg h2] at h ⊢
        by_cases h3 : isX { x with at' := (cellR { x with at' := a }).at' } 44 = false
        · rw [if_pos h3]; exact ⟨by simp, by rw [List.length_append, List.length_singleton]; omega⟩
        · rw [if_neg h3] at h ⊢
          by_cases h4 : 8 ≤ ns.length + 1
          · rw [if_pos h4] at h; exact absurd h (by show ¬ (16 : Int) = 0; decide)
          · rw [if_neg h4] at h ⊢
            exact headF_ne x k _ _ (by rw [List.length_append, List.length_singleton]; omega) h
set_option maxHeartbeats 4000000 in
theorem rspec_any (S : List UInt8) (w : World) (hm : S.length ≤ 600) (hfl : Fo.lim ≤ w.heap.size) :
    Calls Tryz.prog 15 #[.string ⟨S.toArray⟩] w fun e w' => ∃ lv, e = .returned (.tuple #[lv, .int .i64 (finX (specX S) (badN S)).1, .int .i64 (finX (specX S) (badN S)).2]) ∧ ERow w' w.heap.size lv (specX S).l ∧ Below w.heap.size w w' := by
  have hB := rbegin_any S w (by omega) hfl
  have hr := badN_range S
  have HB := Lib.hid hB
  obtain ⟨B, hBB⟩ : ∃ B, badN S = B := ⟨_, rfl⟩
  rw [hBB] at hr
  have HBB := Lib.hid hBB
  obtain ⟨x0, hx0⟩ : ∃ x0, begX S = x0 := ⟨_, rfl⟩
  have HX0 := Lib.hid hx0
  obtain ⟨R, hR⟩ : ∃ R, specX S = R := ⟨_, rfl⟩
  rw [hR, hBB]
  unfold specX spec0 at hR
  rw [hBB, hx0] at hR
  have HR := Lib.hid hR
  have hsl : x0.s.length ≤ 600 ∧ x0.at' = 0 ∧ x0.l = [] := by
    rw [← hx0]
    unfold begX
    split
    · exact ⟨hm, rfl, rfl⟩
    · exact ⟨by show (S.take _).length ≤ 600; rw [List.length_take]; omega, rfl, rfl⟩
  have HSl := Lib.hid hsl
  rw [hBB, hx0] at HB
  clear hB hBB hx0 hR hsl
  go_enter Tryz.func15, Tryz.ntmps15
  go_wp2_with fail
  refine HB.out.mono ?_
  rintro e w1 ⟨t, rfl, hX, hF, hb⟩
  have hs1 := HSl.out
  have HH := Lib.hid (show RowH w w1 w.heap.size t x0.s [] (.slice none 0 0) x0 from ⟨⟨_, hX⟩, ⟨rfl, by rw [hs1.2.1]; omega, by rw [hs1.2.2]; simp⟩, ORow.nil _ _ _, Tch.of_below hb⟩)
  have c0 : w1.cell? ⟨t, 0, none⟩ = some (.string ⟨x0.s.toArray⟩) := hX.cells.1
  have hl1 := hX.blk.lt
  have HF := Lib.hid hF
  clear hX hF hb hs1 HB
  by_cases he : x0.s = []
  · have HE := Lib.hid he
    rw [he] at c0
    have hRe := HR.out
    rw [if_pos he] at hRe
    by_cases hn : B < 0
    · have zn : decide (B < 0) = true := by rw [decide_eq_true_iff]; exact hn
      have e1 : tellIf (decide (x0.s ≠ []) || decide (B < 0)) x0 5 = tellX x0 5 ⟨#[]⟩ := by unfold tellIf; rw [if_pos (by rw [zn]; simp)]
      have e2 : tellIf (decide (B < 0)) (tellX x0 5 ⟨#[]⟩) 6 = tellX (tellX x0 5 ⟨#[]⟩) 6 ⟨#[]⟩ := by unfold tellIf; rw [if_pos zn]
      rw [e1, e2] at hRe
      have HRe := Lib.hid hRe
      have HT1 := Lib.hid (row_tell HH.out HF.out (Nat.le_refl _) (by have := HSl.out.1; omega) (by rw [HSl.out.2.2]; simp) 5 ⟨#[]⟩ ⟨rfl, by show x0.at' ≤ _; rw [HSl.out.2.1]; omega, by simp [tellX, HSl.out.2.2]⟩)
      clear hRe e1 e2 he
      go_wp2_with fail
      refine HT1.out.mono ?_
      rintro f w2 ⟨rfl, hH2⟩
      have HH2 := Lib.hid hH2
      obtain ⟨lv2, hx2⟩ := hH2.tx
      have d0 : w2.cell? ⟨t, 0, none⟩ = some (.string ⟨x0.s.toArray⟩) := hx2.cells.1
      rw [HE.out] at d0
      have hl2 := hx2.blk.lt
      have HT2 := Lib.hid (row_tell HH2.out HF.out (Nat.le_refl _) (by have := HSl.out.1; omega) (by simp [tellX, HSl.out.2.2]) 6 ⟨#[]⟩ ⟨rfl, by show x0.at' ≤ _; rw [HSl.out.2.1]; omega, by simp [tellX, HSl.out.2.2]⟩)
      clear hH2 hx2 HT1 c0 hl1
      go_wp2_with fail
      refine HT2.out.mono ?_
      rintro f w3 ⟨rfl, hH3⟩
      have HH3 := Lib.hid hH3
      clear hH3 HT2 d0 hl2
      obtain ⟨lvF, hxF⟩ := HH3.out.tx
      have hFn := finish_any _ w.heap.size t _ lvF B hxF (by rw [HH3.out.k.s]; have := HSl.out.1; omega)
      have HFn := Lib.hid hFn
      have HxF := Lib.hid hxF
      clear hFn hxF
      go_wp2_with fail
      refine HFn.out.mono ?_
      rintro f wF ⟨rfl, nF, rfl⟩
      go_wp2
      go_ret3
      rw [HRe.out]
      exact ⟨lvF, rfl, by rw [← HRe.out]; exact HxF.out.row.below (below_drewN (Below.refl _ _) nF), (HH3.out.tch.below (Nat.le_refl _)).trans (below_drewN (Below.refl _ _) nF)⟩
    · have zn : decide (B < 0) = false := by rw [decide_eq_false_iff_not]; exact hn
      have e1 : tellIf (decide (x0.s ≠ []) || decide (B < 0)) x0 5 = x0 := by unfold tellIf; rw [if_neg (by rw [zn, he]; simp)]
      have e2 : tellIf (decide (B < 0)) x0 6 = x0 := by unfold tellIf; rw [if_neg (by rw [zn]; decide)]
      rw [e1, e2] at hRe
      have HRe := Lib.hid hRe
      clear hRe e1 e2 he
      obtain ⟨lvF, hxF⟩ := HH.out.tx
      have hFn := finish_any _ w.heap.size t _ lvF B hxF (by rw [HH.out.k.s]; have := HSl.out.1; omega)
      have HFn := Lib.hid hFn
      have HxF := Lib.hid hxF
      clear hFn hxF
      go_wp2_with fail
      refine HFn.out.mono ?_
      rintro f wF ⟨rfl, nF, rfl⟩
      go_wp2
      go_ret3
      rw [HRe.out]
      exact ⟨lvF, rfl, by rw [← HRe.out]; exact HxF.out.row.below (below_drewN (Below.refl _ _) nF), (HH.out.tch.below (Nat.le_refl _)).trans (below_drewN (Below.refl _ _) nF)⟩
  · obtain ⟨q1, q2⟩ := str_neq (x := x0.s) (y := []) he
    have hRe := HR.out
    rw [if_neg he] at hRe
    have e1 : tellIf (decide (x0.s ≠ []) || decide (B < 0)) x0 5 = tellX x0 5 ⟨#[]⟩ := by unfold tellIf; rw [if_pos (by simp [he])]
    rw [e1] at hRe
    have HRe := Lib.hid hRe
    have HE := Lib.hid he
    have q0 : (⟨([] : List UInt8).toArray⟩ : ByteArray).toList = [] := by first | rfl | decide | simp
    rw [q0] at q2
    have q3 : (⟨x0.s.toArray⟩ : ByteArray).toList.isEmpty = false := by
      have h : ¬ (⟨x0.s.toArray⟩ : ByteArray).toList = [] := q2
      cases hh : (⟨x0.s.toArray⟩ : ByteArray).toList with
      | nil => exact absurd hh h
      | cons a b => rfl
    have q4 : ¬ (⟨x0.s.toArray⟩ : ByteArray).toList = [] := q2
    have HT1 := Lib.hid (row_tell HH.out HF.out (Nat.le_refl _) (by have := HSl.out.1; omega) (by rw [HSl.out.2.2]; simp) 5 ⟨#[]⟩ ⟨rfl, by show x0.at' ≤ _; rw [HSl.out.2.1]; omega, by simp [tellX, HSl.out.2.2]⟩)
    clear hRe e1 he
    generalize hs : (⟨x0.s.toArray⟩ : ByteArray) = s at *
    have HSS := Lib.hid hs
    clear hs
    go_wp2_with fail
    refine HT1.out.mono ?_
    rintro f w2 ⟨rfl, hH2⟩
    obtain ⟨lv2, hx2⟩ := hH2.tx
    have d0 : w2.cell? ⟨t, 0, none⟩ = some (.string s) := by rw [← HSS.out]; exact hx2.cells.1
    have hl2 := hx2.blk.lt
    have hHd := header_any w2 w.heap.size t _ lv2 hx2 HF.out (by show x0.s.length ≤ 900; have := HSl.out.1; omega) (by show x0.at' ≤ _; rw [HSl.out.2.1]; exact Nat.zero_le _) hH2.tch.size
    have HHd := Lib.hid hHd
    have HH2 := Lib.hid hH2
    clear hHd hx2 hH2 HT1 c0 hl1
    go_wp2_with fail
    refine HHd.out.mono ?_
    rintro f w3 ⟨hg, hbd, ht⟩
    -- what stands ahead of the rows
    obtain ⟨hd, hhd⟩ : ∃ hd, headF (tellX x0 5 ⟨#[]⟩) 8 [] 0 = hd := ⟨_, rfl⟩
    have hat0 : (tellX x0 5 ⟨#[]⟩).at' = 0 := HSl.out.2.1
    rw [hat0] at hg hbd
    have hRe := HRe.out
    rw [hhd] at hg hbd hRe
    have HL600 : Hid (x0.s.length ≤ 600) := Lib.hid HSl.out.1
    obtain ⟨nv, okv, y0, ns, hfe, HY0, hRow⟩ : ∃ (nv : Value) (okv : Bool) (y0 : Tx) (ns : List (List UInt8)), f = .returned (.tuple #[nv, .bool okv]) ∧ Hid (okv = true → (ns ≠ [] ∧ ns.length ≤ 8) ∧ y0.l.length ≤ 5 * y0.at' + 3 ∧ y0.at' ≤ x0.s.length + 1 ∧ R = tellIf ((rowsF ns (S.length + 2) y0).2 && decide (B < 0)) (rowsF ns (S.length + 2) y0).1 6) ∧ Hid ((okv = false → R = y0) ∧ RowH w w3 w.heap.size t x0.s ns nv y0) := by
      have hat : hd.at' ≤ x0.s.length + 1 := by rw [← hhd]; exact headF_at (tellX x0 5 ⟨#[]⟩) 8 [] 0 (Nat.zero_le _)
      have hkk : ∀ y : Tx, y.s = x0.s → y.at' = hd.at' → y.l = (tellX x0 5 ⟨#[]⟩).l → TxK x0.s y := fun y h1 h2 h3 => ⟨h1, by rw [h2]; exact hat, by rw [h3]; simp [tellX, HSl.out.2.2]⟩
      by_cases he0 : hd.e = 0
      · obtain ⟨nv, h1, h2, h3⟩ := hg he0
        rw [if_neg (fun h => h he0)] at hRe
        have hne := headF_ne (tellX x0 5 ⟨#[]⟩) 8 [] 0 (Nat.le_refl _) (by rw [hhd]; exact he0)
        rw [hhd] at hne
        refine ⟨nv, true, _, hd.ns, h1, Lib.hid (fun _ => ⟨hne, by show (tellX x0 5 ⟨#[]⟩).l.length ≤ 5 * hd.at' + 3; simp [tellX, HSl.out.2.2], hat, hRe.symm⟩), Lib.hid ⟨(fun h => by cases h), ⟨⟨lv2, h3⟩, hkk _ rfl rfl rfl, row_dnT h2 HH2.out.tch.size, HH2.out.tch.trans (ht.wide fun _ => tx_of)⟩⟩⟩
      · obtain ⟨h1, h3⟩ := hbd he0
        rw [if_pos he0] at hRe
        refine ⟨_, false, _, [], h1, Lib.hid (fun h => (by cases h)), Lib.hid ⟨fun _ => hRe.symm, ⟨⟨lv2, h3⟩, ?_, ORow.nil _ _ _, HH2.out.tch.trans (ht.wide fun _ => tx_of)⟩⟩⟩
        unfold badX
        split
        · exact hkk _ rfl rfl rfl
        · exact hkk _ rfl rfl rfl
    subst hfe
    have HS4 : Hid (x0.s.length ≤ S.length) := Lib.hid (by
      rw [← HX0.out]
      unfold begX
      split
      · exact Nat.le_refl _
      · show (S.take _).length ≤ _; rw [List.length_take]; omega)
    have HStart : Hid (RowH w w3 w.heap.size t x0.s ns nv y0) := Lib.hid hRow.out.2
    have HSt1 : Hid (okv = true → (ns ≠ [] ∧ ns.length ≤ 8) ∧ y0.l.length ≤ 5 * y0.at' + 3 ∧ x0.s.length + 1 - y0.at' < S.length + 2 ∧ R = tellIf ((rowsF ns (S.length + 2) y0).2 && decide (B < 0)) (rowsF ns (S.length + 2) y0).1 6) := Lib.hid (fun h => ⟨(HY0.out h).1, (HY0.out h).2.1, by have := HS4.out; omega, (HY0.out h).2.2.2⟩)
    have HSt2 : Hid (okv = false → R = y0) := Lib.hid hRow.out.1
    obtain ⟨An, cn, hnv⟩ := hRow.out.2.row.shape
    rw [List.length_map] at hnv
    subst hnv
    clear hg hbd ht hRe hat0 HHd d0 hl2 hRow HY0
    go_wp2
    go_loopw [8] (fun v wr => ∃ (n : Nat) (y : Tx) (ok : Bool), v = .bool ok ∧ Hid (RowH w wr w.heap.size t x0.s ns (.slice An ns.length cn) y) ∧ Hid (ok = true → (ns ≠ [] ∧ ns.length ≤ 8) ∧ y.l.length ≤ 5 * y.at' + 3 ∧ x0.s.length + 1 - y.at' < n ∧ R = tellIf ((rowsF ns n y).2 && decide (B < 0)) (rowsF ns n y).1 6) ∧ Hid (ok = false → R = y)) (fun v wr => if boolOf v = true then x0.s.length + 2 - atOf wr t else 0)
    case atStart => exact ⟨S.length + 2, y0, okv, rfl, HStart, HSt1, HSt2⟩
    case round =>
      obtain ⟨n, y, ok, rfl, HY, HT, HFa⟩ := hrel
      obtain ⟨lvy, hxy⟩ := HY.out.tx
      have hks := HY.out.k.s
      have c0 : wr.cell? ⟨t, 0, none⟩ = some (.string s) := by rw [← HSS.out, ← hks]; exact hxy.cells.1
      have c1 : wr.cell? ⟨t, 1, none⟩ = some (.int .i64 (y.at' : Int)) := hxy.cells.2.1
      have hlr := hxy.blk.lt
      have hsz : s.size = x0.s.length := by rw [← HSS.out]; show x0.s.toArray.size = _; simp
      have hat1 := HY.out.k.at1
      have h600 := HL600.out
      cases ok with
      | false =>
        have HRy := Lib.hid (HFa.out rfl)
        have HYd : Hid (∀ nq, RowH w (wr.drewN nq) w.heap.size t x0.s ns (.slice An ns.length cn) y) := Lib.hid (fun nq => ⟨⟨lvy, hxy.drewN nq⟩, HY.out.k, HY.out.row.drewN nq, HY.out.tch.drewN nq⟩)
        clear hxy HT HFa hks
        go_wp2
        go_quiet (fail)
        have HYq := Lib.hid (HYd.out nq)
        clear HYd HY
        generalize wr.drewN nq = wq at *
        obtain ⟨lvF, hxF⟩ := HYq.out.tx
        have hFn := finish_any _ w.heap.size t _ lvF B hxF (by rw [HYq.out.k.s]; have := HL600.out; omega)
        have HFn := Lib.hid hFn
        have HxF := Lib.hid hxF
        clear hFn hxF
        go_wp2_with fail
        refine HFn.out.mono ?_
        rintro f wF ⟨rfl, nF, rfl⟩
        go_wp2
        go_ret3
        rw [HRy.out]
        exact ⟨lvF, rfl, HxF.out.row.below (below_drewN (Below.refl _ _) nF), (HYq.out.tch.below (Nat.le_refl _)).trans (below_drewN (Below.refl _ _) nF)⟩
      | true =>
        obtain ⟨hns, hlb, hn, hRy⟩ := HT.out rfl
        have HYd : Hid (∀ nq, RowH w (wr.drewN nq) w.heap.size t x0.s ns (.slice An ns.length cn) y) := Lib.hid (fun nq => ⟨⟨lvy, hxy.drewN nq⟩, HY.out.k, HY.out.row.drewN nq, HY.out.tch.drewN nq⟩)
        have HAt : Hid (atOf wr t = y.at') := Lib.hid hxy.atOf
        obtain ⟨n', rfl⟩ : ∃ n', n = n' + 1 := ⟨n - 1, by omega⟩
        obtain ⟨ya, hya⟩ : ∃ ya, y.at' = ya := ⟨_, rfl⟩
        have HYa := Lib.hid hya
        by_cases hlt : y.at' < x0.s.length
        case neg =>
          have hrf : rowsF ns (n' + 1) y = (y, true) := by simp only [rowsF]; rw [hks, if_neg hlt]
          rw [hrf] at hRy
          have z1 : decide ((y.at' : Int) < (s.size : Int)) = false := by rw [decide_eq_false_iff_not]; omega
          have z2 : decide (y.at' < s.size) = false := by rw [decide_eq_false_iff_not]; omega
          have HRy0 := Lib.hid hRy
          clear hxy HT HFa hks hn hRy hrf hya
          by_cases hB : B < 0
          · have zB : decide (B < 0) = true := by rw [decide_eq_true_iff]; exact hB
            have HRy : Hid (R = tellX y 6 ⟨#[]⟩) := Lib.hid (by rw [HRy0.out]; unfold tellIf; rw [if_pos (by simp [zB])])
            have HTl := Lib.hid (fun nq => row_tell (HYd.out nq) HF.out (Nat.le_refl _) (by have := HL600.out; omega) (by have := HY.out.k.ln; omega) 6 ⟨#[]⟩ ⟨HY.out.k.s, hat1, by simp only [tellX, List.length_append, List.length_singleton]; omega⟩)
            clear HYd HY
            go_wp2
            go_quiet (fail)
            go_wp2_with fail
            refine (HTl.out _).mono ?_
            rintro f w5 ⟨rfl, hH5⟩
            have HH5 := Lib.hid hH5
            clear hH5 HTl
            obtain ⟨lvF, hxF⟩ := HH5.out.tx
            have hFn := finish_any _ w.heap.size t _ lvF B hxF (by rw [HH5.out.k.s]; have := HL600.out; omega)
            have HFn := Lib.hid hFn
            have HxF := Lib.hid hxF
            clear hFn hxF
            go_wp2_with fail
            refine HFn.out.mono ?_
            rintro f wF ⟨rfl, nF, rfl⟩
            go_wp2
            go_ret3
            rw [HRy.out]
            exact ⟨lvF, rfl, HxF.out.row.below (below_drewN (Below.refl _ _) nF), (HH5.out.tch.below (Nat.le_refl _)).trans (below_drewN (Below.refl _ _) nF)⟩
          · have zB : decide (B < 0) = false := by rw [decide_eq_false_iff_not]; exact hB
            have HRy : Hid (R = y) := Lib.hid (by rw [HRy0.out]; unfold tellIf; rw [if_neg (by simp [zB])])
            go_wp2
            go_quiet (fail)
            have HYq := Lib.hid (HYd.out nq)
            clear HYd HY
            generalize wr.drewN nq = wq at *
            obtain ⟨lvF, hxF⟩ := HYq.out.tx
            have hFn := finish_any _ w.heap.size t _ lvF B hxF (by rw [HYq.out.k.s]; have := HL600.out; omega)
            have HFn := Lib.hid hFn
            have HxF := Lib.hid hxF
            clear hFn hxF
            go_wp2_with fail
            refine HFn.out.mono ?_
            rintro f wF ⟨rfl, nF, rfl⟩
            go_wp2
            go_ret3
            rw [HRy.out]
            exact ⟨lvF, rfl, HxF.out.row.below (below_drewN (Below.refl _ _) nF), (HYq.out.tch.below (Nat.le_refl _)).trans (below_drewN (Below.refl _ _) nF)⟩
        case pos =>
          have z1 : decide ((y.at' : Int) < (s.size : Int)) = true := by rw [decide_eq_true_iff]; omega
          have z2 : decide (y.at' < s.size) = true := by rw [decide_eq_true_iff]; omega
          obtain ⟨Q, hQ⟩ : ∃ Q, rowF ns ns.length 0 y = Q := ⟨_, rfl⟩
          have hrs : rowsF ns (n' + 1) y = if Q.2 = true then rowsF ns n' (tellX Q.1 9 ⟨#[]⟩) else (Q.1, false) := by simp only [rowsF]; rw [hks, if_pos hlt, hQ]
          have HQ1 : Hid (Q.2 = true → R = tellIf ((rowsF ns n' (tellX Q.1 9 ⟨#[]⟩)).2 && decide (B < 0)) (rowsF ns n' (tellX Q.1 9 ⟨#[]⟩)).1 6) := Lib.hid (fun h => by rw [hRy, hrs, if_pos h])
          have HQ2 : Hid (Q.2 = false → R = Q.1) := Lib.hid (fun h => by rw [hRy, hrs, if_neg (by rw [h]; decide)]; unfold tellIf; rw [if_neg (by simp)])
          have HN8 : Hid (ns.length ≤ 8) := Lib.hid hns.2
          have HLB : Hid (y.l.length ≤ 5 * y.at' + 3 ∧ y.at' < x0.s.length ∧ x0.s.length + 1 - y.at' < n' + 1) := Lib.hid ⟨hlb, hlt, hn⟩
          have HStart2 : Hid (0 < ns.length ∧ rowF ns (ns.length - 0) 0 y = Q) := Lib.hid ⟨List.length_pos_iff.mpr hns.1, hQ⟩
          clear hxy HT HFa hks hn hRy hya hQ hrs hns hlb h600 hat1
          go_wp2
          go_quiet (fail)
          have HYq := Lib.hid (HYd.out nq)
          clear HYd HY
          generalize wr.drewN nq = wq at *
          go_wp2
          go_loopw [8, 9] (fun v8 v9 w2 => ∃ (k : Nat) (y' : Tx) (ok' : Bool), v8 = .bool ok' ∧ v9 = .int .i64 (k : Int) ∧ k ≤ ns.length ∧ Hid (RowH w w2 w.heap.size t x0.s ns (.slice An ns.length cn) y') ∧
            Hid (ok' = true → (k < ns.length → y'.at' ≤ x0.s.length) ∧ rowF ns (ns.length - k) k y' = Q ∧ ((k = 0 ∧ y.at' ≤ y'.at' ∧ y'.l.length ≤ 5 * y'.at' + 3) ∨ (y.at' < y'.at' ∧ y'.l.length ≤ 5 * y'.at' + 1))) ∧ Hid (ok' = false → Q = (y', false))) (fun v8 v9 _ => if boolOf v8 = true then 9 - (intOf v9).toNat else 0)
          case atStart => exact ⟨0, y, true, rfl, rfl, Nat.zero_le _, HYq, Lib.hid (fun _ => ⟨fun _ => by have := HLB.out.2.1; omega, HStart2.out.2, .inl ⟨rfl, Nat.le_refl _, HLB.out.1⟩⟩), Lib.hid (fun h => by cases h)⟩
          case round =>
            obtain ⟨k, y', ok', rfl, rfl, hkl, HY, HT, HFa⟩ := hrel
            have h8 := HN8.out
            cases ok' with
            | false =>
              have HRy : Hid (R = y') := Lib.hid (by have := HFa.out rfl; rw [HQ2.out (by rw [this]), this])
              clear HT HFa
              by_cases hlt : k < ns.length
              all_goals
                have g1 : decide (k < ns.length) = decide (k < ns.length) := rfl
                go_wp2
                go_roundw
                case rel => exact ⟨0, y', false, rfl, HY, Lib.hid (fun h => by cases h), Lib.hid (fun _ => HRy.out)⟩
                case measure => (rw [show boolOf (Value.bool false) = false from rfl, show boolOf (Value.bool true) = true from rfl, if_neg (by decide), if_pos rfl, HAt.out]; have := HLB.out; omega)
            | true =>
              obtain ⟨hT1, hT2, hT3⟩ := HT.out rfl
              by_cases hlt : k < ns.length
              case neg =>
                have hke : k = ns.length := by omega
                have hq : Q = (y', true) := by rw [← hT2, hke, Nat.sub_self]; rfl
                have hbn : y'.l.length ≤ 5 * y'.at' + 1 ∧ y.at' < y'.at' := by
                  rcases hT3 with ⟨h0, _⟩ | h
                  · exact absurd h0 (by have := HStart2.out.1; omega)
                  · exact ⟨h.2, h.1⟩
                have hRq := HQ1.out (by rw [hq])
                rw [hq] at hRq
                have HRq := Lib.hid hRq
                have HBn := Lib.hid hbn
                have HTl := Lib.hid (row_tell HY.out HF.out (Nat.le_refl _) (by have := HL600.out; omega) (by have := HY.out.k.at1; have := HL600.out; have := hbn.1; omega) 9 ⟨#[]⟩ ⟨HY.out.k.s, HY.out.k.at1, by simp only [tellX, List.length_append, List.length_singleton]; omega⟩)
                clear HT HFa hT1 hT2 hT3 hq hbn hRq
                go_wp2_with fail
                refine HTl.out.mono ?_
                rintro f w5 ⟨rfl, hH5⟩
                have HH5 := Lib.hid hH5
                clear hH5 HTl
                go_wp2
                go_roundw
                case rel => exact ⟨n', tellX y' 9 ⟨#[]⟩, true, rfl, HH5, Lib.hid (fun _ => ⟨⟨by have := HStart2.out.1; intro e; rw [e] at this; simp at this, h8⟩, by show (y'.l ++ _).length ≤ 5 * y'.at' + 3; rw [List.length_append]; have := HBn.out.1; simp; omega, by show x0.s.length + 1 - y'.at' < n'; have := HBn.out.2; have := HLB.out; omega, HRq.out⟩), Lib.hid (fun h => by cases h)⟩
                case measure =>
                  obtain ⟨lv5, hx5⟩ := HH5.out.tx
                  have ha5 : atOf w5 t = y'.at' := hx5.atOf
                  rw [show boolOf (Value.bool true) = true from rfl, if_pos rfl, if_pos rfl, HAt.out, ha5]
                  have := HLB.out
                  have := HBn.out.2
                  have := HH5.out.k.at1
                  have h9 : (tellX y' 9 ⟨#[]⟩).at' = y'.at' := rfl
                  omega
              case pos =>
                obtain ⟨m, hm1⟩ : ∃ m, ns.length - k = m + 1 := ⟨ns.length - k - 1, by omega⟩
                have hm2 : ns.length - (k + 1) = m := by omega
                rw [hm1] at hT2
                have hyat := hT1 hlt
                have hC := row_cell HY.out HF.out (Nat.le_refl _) (by have := HL600.out; omega) hyat
                have hcat := cellR_at y' (by rw [HY.out.k.s]; exact hyat)
                rw [HY.out.k.s] at hcat
                obtain ⟨r, hr⟩ : ∃ r, cellR y' = r := ⟨_, rfl⟩
                rw [rowF, hr] at hT2
                rw [hr] at hC hcat
                have HT2 := Lib.hid hT2
                have HC := Lib.hid hC
                have HCat := Lib.hid hcat
                have HT3 := Lib.hid hT3
                have HM2 := Lib.hid hm2
                have HYs : Hid (y'.s = x0.s ∧ y'.at' ≤ x0.s.length) := Lib.hid ⟨HY.out.k.s, hyat⟩
                clear hT1 hT2 hT3 HT HFa hC hcat hr hm1 hm2 hyat
                go_wp2_with fail
                refine HC.out.mono ?_
                rintro f w3 ⟨hg, hbd⟩
                by_cases he : r.e = 0
                case neg =>
                  obtain ⟨rfl, hH3⟩ := hbd he
                  have hq := HT2.out
                  rw [if_pos he] at hq
                  have HRy := Lib.hid (HQ2.out (by rw [← hq]))
                  rw [← hq] at HRy
                  have HH3 := Lib.hid hH3
                  clear hg hbd hq hH3 HT2 HC HY
                  go_wp2
                  go_roundw
                  case rel => exact ⟨0, _, false, rfl, HH3, Lib.hid (fun h => by cases h), Lib.hid (fun _ => HRy.out)⟩
                  case measure => (rw [show boolOf (Value.bool false) = false from rfl, show boolOf (Value.bool true) = true from rfl, if_neg (by decide), if_pos rfl, HAt.out]; have := HLB.out; omega)
                case pos =>
                  obtain ⟨rfl, hH3⟩ := hg he
                  have hq := HT2.out
                  rw [if_neg (fun h => h he)] at hq
                  have HT2' := Lib.hid hq
                  have HH3 := Lib.hid hH3
                  have hlb : y'.l.length ≤ 5 * y'.at' + 3 := by rcases HT3.out with h | h <;> omega
                  have hat := HCat.out
                  have HLb2 : Hid (y'.l.length ≤ 5 * r.at' + 3 ∧ r.at' ≤ x0.s.length) := Lib.hid ⟨by omega, hat.2⟩
                  have HHe := Lib.hid he
                  clear hg hbd hq hH3 HT2 HC HY he hlb hat
                  by_cases hk0 : k = 0
                  case' pos =>
                    have HTl := Lib.hid (row_tell HH3.out HF.out (Nat.le_refl _) (by have := HL600.out; omega) (by have := HLb2.out; have := HL600.out; show y'.l.length ≤ _; omega) 7 ⟨#[]⟩ ⟨HYs.out.1, by show r.at' ≤ _; have := HLb2.out; omega, by show (y'.l ++ _).length ≤ 5 * r.at' + 10; rw [List.length_append]; have := HLb2.out; simp; omega⟩)
                    have zk : ((k : Int) == 0) = true := by rw [beq_iff_eq]; omega
                    have HK0 := Lib.hid hk0
                    clear hk0
                    go_wp2_with fail
                    refine HTl.out.mono ?_
                    rintro f w3 ⟨rfl, hH4⟩
                    have HH4 : Hid (RowH w w3 w.heap.size t x0.s ns (.slice An ns.length cn) (if k = 0 then tellX { y' with at' := r.at' } 7 ⟨#[]⟩ else { y' with at' := r.at' })) := Lib.hid (by rw [if_pos HK0.out]; exact hH4)
                    clear hH4 HTl zk
                  case' neg =>
                    have zk : ((k : Int) == 0) = false := by rw [beq_eq_false_iff_ne]; omega
                    have HH4 : Hid (RowH w w3 w.heap.size t x0.s ns (.slice An ns.length cn) (if k = 0 then tellX { y' with at' := r.at' } 7 ⟨#[]⟩ else { y' with at' := r.at' })) := Lib.hid (by rw [if_neg hk0]; exact HH3.out)
                    have HK0 := Lib.hid hk0
                    clear hk0
                  all_goals
                    clear HH3
                    obtain ⟨y2, hy2⟩ : ∃ y2, (if k = 0 then tellX { y' with at' := r.at' } 7 ⟨#[]⟩ else { y' with at' := r.at' }) = y2 := ⟨_, rfl⟩
                    rw [hy2] at HH4
                    have hy2f : y2.s = x0.s ∧ y2.at' = r.at' ∧ y2.l.length ≤ y'.l.length + 1 := by
                      rw [← hy2]
                      split
                      · exact ⟨HYs.out.1, rfl, by simp [tellX]⟩
                      · exact ⟨HYs.out.1, rfl, Nat.le_succ _⟩
                    have hct : cellT ns k y' r = tellX (tellX y2 8 ⟨(ns.getD k []).toArray⟩) 4 ⟨r.out.toArray⟩ := by unfold cellT; rw [hy2]
                    have hgd : ns.getD k [] = ns[k] := by simp [List.getD, hlt]
                    rw [hgd] at hct
                    obtain ⟨A', c', hv, hrd⟩ := HH4.out.row.sread
                    injection hv with hv1 _ hv2
                    subst hv1 hv2
                    obtain ⟨ad, rfl, hcc⟩ := hrd (by omega)
                    have hck := hcc k hlt
                    generalize ns[k] = nk at hck hct
                    have hb2 : y2.l.length ≤ 5 * r.at' + 4 := by have h1 := hy2f.2.2; have h2 := HLb2.out.1; omega
                    have HY2 := Lib.hid hy2f
                    have HCT := Lib.hid hct
                    have HB2 := Lib.hid hb2
                    have hra : r.at' ≤ 600 := by have := HLb2.out.2; have := HL600.out; omega
                    have HK8 := Lib.hid (row_tell HH4.out HF.out (Nat.le_refl _) (by have := HL600.out; omega) (by omega) 8 ⟨nk.toArray⟩ ⟨hy2f.1, by show y2.at' ≤ _; rw [hy2f.2.1]; have := HLb2.out; omega, by show (y2.l ++ _).length ≤ 5 * y2.at' + 10; rw [List.length_append, hy2f.2.1]; simp; omega⟩)
                    clear hy2 hy2f hct hgd hcc hrd hb2
                    go_wp2_with fail
                    refine HK8.out.mono ?_
                    rintro f w5 ⟨rfl, hH5⟩
                    have HH5 := Lib.hid hH5
                    have HK4 := Lib.hid (row_tell HH5.out HF.out (Nat.le_refl _) (by have := HL600.out; omega) (by show (y2.l ++ _).length ≤ _; rw [List.length_append]; have := HB2.out; simp; omega) 4 ⟨r.out.toArray⟩ ⟨HY2.out.1, by show y2.at' ≤ _; rw [HY2.out.2.1]; have := HLb2.out; omega, by show ((y2.l ++ _) ++ _).length ≤ 5 * y2.at' + 10; rw [List.length_append, List.length_append, HY2.out.2.1]; have := HB2.out; simp; omega⟩)
                    clear hH5 hck HK8 HH4
                    go_wp2_with fail
                    refine HK4.out.mono ?_
                    rintro f w6 ⟨rfl, hH6⟩
                    have HH6 := Lib.hid hH6
                    clear hH6 HK4 HH5
                    obtain ⟨y4, hy4⟩ : ∃ y4, cellT ns k y' r = y4 := ⟨_, rfl⟩
                    have hy4' := HCT.out
                    rw [hy4] at hy4'
                    rw [← hy4'] at HH6
                    have hat4 : y4.at' = r.at' := by rw [hy4']; exact HY2.out.2.1
                    have hl4 : y4.l.length ≤ y2.l.length + 2 := by rw [hy4']; simp [tellX]
                    have hs4 : y4.s = x0.s := by rw [hy4']; exact HY2.out.1
                    have hq := HT2'.out
                    rw [hy4] at hq
                    obtain ⟨bi, hbi⟩ : ∃ bi, isX y4 44 = bi := ⟨_, rfl⟩
                    obtain ⟨bk, hbk⟩ : ∃ bk, decide (k + 1 < ns.length) = bk := ⟨_, rfl⟩
                    rw [hbi, hbk] at hq
                    have zb : decide ((k : Int) + 1 < (ns.length : Int)) = bk := by rw [← hbk, decide_eq_decide]; omega
                    have hIs := row_is HH6.out (by have := HL600.out; omega) 44
                    rw [hbi] at hIs
                    have HIs := Lib.hid hIs
                    have H4 := Lib.hid (And.intro hat4 (And.intro hl4 hs4))
                    have HQ := Lib.hid hq
                    have HBI := Lib.hid hbi
                    have HBK := Lib.hid hbk
                    clear hIs hat4 hl4 hs4 hq hbi hy4 hy4' hbk HT2' HCT
                    by_cases hne : bi = bk
                    case pos =>
                      subst hne
                      have zne : (bi != bi) = false := by cases bi <;> rfl
                      have zne2 : (bi == bi) = true := by cases bi <;> rfl
                      go_wp2_with fail
                      refine HIs.out.mono ?_
                      rintro f w7 ⟨rfl, hH7, n7, hw7⟩
                      have HH7 := Lib.hid hH7
                      obtain ⟨lv7, hx7⟩ := hH7.tx
                      have c1 : w7.cell? ⟨t, 1, none⟩ = some (.int .i64 (r.at' : Int)) := by rw [← H4.out.1]; exact hx7.cells.2.1
                      have fr1 := hx7.blk.frozen 1
                      have hl7 := hx7.blk.lt
                      have HSt := Lib.hid (row_step HH7.out HF.out r.at' H4.out.1 HLb2.out.2)
                      clear hH7 hx7 hw7 HIs HH6
                      go_wp2
                      go_roundw
                      case rel =>
                        refine ⟨k + 1, { y4 with at' := r.at' + 1 }, true, rfl, by go_num, hlt, HSt, Lib.hid (fun _ => ⟨fun h => ?_, ?_, .inr ⟨?_, ?_⟩⟩), Lib.hid (fun h => by cases h)⟩
                        · have h1 : isX y4 44 = true := by rw [HBI.out, ← HBK.out, decide_eq_true h]
                          obtain ⟨h2, _⟩ := isX_true h1
                          rw [H4.out.1, H4.out.2.2] at h2
                          exact h2
                        · rw [HM2.out]
                          have h1 := HQ.out
                          rw [if_neg (fun h => h rfl)] at h1
                          exact h1
                        · have h1 := HCat.out.1
                          show y.at' < r.at' + 1
                          rcases HT3.out with h | h <;> omega
                        · show y4.l.length ≤ 5 * (r.at' + 1) + 1
                          have h1 := H4.out.2.1
                          have h2 := HB2.out
                          omega
                      case measure => simp [boolOf, intOf]; omega
                    case neg =>
                      have zne : (bi != bk) = true := by cases bi <;> cases bk <;> first | rfl | exact absurd rfl hne
                      have zne2 : (bi == bk) = false := by cases bi <;> cases bk <;> first | rfl | exact absurd rfl hne
                      go_wp2_with fail
                      refine HIs.out.mono ?_
                      rintro f w7 ⟨rfl, hH7, n7, hw7⟩
                      have HH7 := Lib.hid hH7
                      obtain ⟨lv7, hx7⟩ := hH7.tx
                      have c1 : w7.cell? ⟨t, 1, none⟩ = some (.int .i64 (r.at' : Int)) := by rw [← H4.out.1]; exact hx7.cells.2.1
                      have hl7 := hx7.blk.lt
                      have HBd := Lib.hid (row_bad HH7.out HF.out 17 (r.at' : Int))
                      have HNe := Lib.hid hne
                      clear hH7 hx7 hw7 HIs HH6 hne
                      go_wp2_with fail
                      refine HBd.out.mono ?_
                      rintro f w8 ⟨rfl, hH8⟩
                      have HH8 := Lib.hid hH8
                      obtain ⟨lv8, hx8⟩ := hH8.tx
                      have hat8 : (badX y4 17 (r.at' : Int)).at' = r.at' := by rw [← H4.out.1]; unfold badX; split <;> rfl
                      have c8 : w8.cell? ⟨t, 1, none⟩ = some (.int .i64 (r.at' : Int)) := by have h := hx8.cells.2.1; rw [hat8] at h; exact h
                      have fr8 := hx8.blk.frozen 1
                      have hl8 := hx8.blk.lt
                      have HSt := Lib.hid (row_step HH8.out HF.out r.at' hat8 HLb2.out.2)
                      clear hH8 hx8 HBd HH7 c1 hl7 hat8
                      go_wp2
                      go_roundw
                      case rel =>
                        refine ⟨k + 1, { badX y4 17 (r.at' : Int) with at' := r.at' + 1 }, false, rfl, by go_num, hlt, HSt, Lib.hid (fun h => by cases h), Lib.hid (fun _ => ?_)⟩
                        have h1 := HQ.out
                        rw [if_pos HNe.out] at h1
                        exact h1.symm
                      case measure => simp [boolOf, intOf]; omega
end Go.Proofs.YtfciacigamjfkabGreat
