/-
  outline: part.
  outline: what is stored of the parser; entry.
-/
import Derived.Test.YtalkjgijmceifaaGreatDoorOwA32
namespace Go.Proofs.YtalkjgijmceifaaGreatDoor
open Go.RowKit Go.Maps
set_option maxRecDepth 100000
set_option linter.unusedSimpArgs false
set_option linter.unusedVariables false
set_option linter.unusedSectionVars false
set_option linter.unusedSectionVars false
variable [Tab] [Fo]

/-- How a part's reading ends. -/
def Pr (I : Ox → Nat → World → Prop) (F : Int → World → Prop) (r : Option (Nat × Ox × Bool)) (e : Ending) (w' : World) : Prop :=
  (∃ a' x' bb, r = some (a', x', bb) ∧ e = .returned (.bool bb) ∧ I x' a' w') ∨ (r = none ∧ ∃ k, e = .panicked (failP k) ∧ F k w')
section
variable {base L p o ck an g : Nat} {S : List UInt8} {x : Ox} {a : Nat} {w w' w0 w1 W : World} {q : Obj → Prop}
theorem pr_up (ht : Tch base q w0 W) {r : Option (Nat × Ox × Bool)} {e : Ending} (h : Pr (OI base L p o ck an g S q W) (OF base L p o ck an g S q W) r e w') : Pr (OI base L p o ck an g S q w0) (OF base L p o ck an g S q w0) r e w' := by
  rcases h with ⟨a', x', bb, h1, h2, h3⟩ | ⟨h1, k, h2, h3⟩
  · exact .inl ⟨a', x', bb, h1, h2, oi_up ht h3⟩
  · exact .inr ⟨h1, k, h2, of_up ht h3⟩
theorem gap_fa {a' : Nat} (h : gapO S a = some a') : a ≤ a' := by
  unfold gapO at h
  split at h
  · cases h; exact Nat.le_refl _
  · have := (eatB_some h).1; omega
set_option maxHeartbeats 16000000 in
theorem part_O (hok : OkL olM S a x) (h : OlI base L p o ck an g S x a w) :
    Calls Tryz.prog 192 #[rV L p] w (Pr (OI base L p o ck an g S olObj w) (OF base L p o ck an g S olObj w) (partO S a x)) := by
  obtain ⟨b, W, hg, hW, hB, hlt, hi, hT⟩ := rboxO (q := olObj) h
  have HU := Lib.hid hT
  obtain ⟨R, hR⟩ : ∃ R, partO S a x = R := ⟨_, rfl⟩
  rw [hR]
  unfold partO at hR
  have HR := Lib.hid hR
  have h160 := hi.s9
  have HB := Lib.hid hB
  have HC := Lib.hid (blanks_I ((oT (p := p) (ck := ck) (an := an) (q := olObj) (w0 := W) (by omega) ox_ol).rd x) (oi_refl hi))
  have HOk := Lib.hid (okL_mono (le_blk S a) hok)
  have hba := le_blk S a
  obtain ⟨b0, b1, _⟩ := ob_cells hB
  obtain ⟨a0, ha0⟩ : ∃ a0, blk S a = a0 := ⟨_, rfl⟩
  rw [ha0] at HR HC HOk
  unfold rV
  clear h hT hB hi hR hok hba ha0
  go_enter Tryz.func192, Tryz.ntmps192
  go_wp2_with fail
  refine HC.out.mono ?_
  rintro e w1 ⟨rfl, h1⟩
  have HB1 := Lib.hid (ob_tch HB.out h1.2)
  have HT1 := Lib.hid (HU.out.trans h1.2)
  have HI1 := Lib.hid h1.1
  have HIs := Lib.hid (is_I ((oT (p := p) (ck := ck) (an := an) (q := olObj) (w0 := w1) (by omega) ox_ol).rd x) 38 (oi_refl h1.1))
  obtain ⟨b0, b1, hgl1⟩ := ob_cells HB1.out
  clear h1 HC HB hlt
  go_wp2_with fail
  refine HIs.out.mono ?_
  rintro e w2 ⟨rfl, h2⟩
  have HB2 := Lib.hid (ob_tch HB1.out h2.2)
  have HT2 := Lib.hid (HT1.out.trans h2.2)
  have HI2 := Lib.hid h2.1
  obtain ⟨b0, b1, hgl2⟩ := ob_cells HB2.out
  clear h2 HIs HB1 HI1 HT1 hgl1
  cases hc : isB S a0 38 with
  | false =>
    have HR2 : Hid (restO S a0 x = R) := Lib.hid (by rw [← HR.out]; unfold ampO; rw [if_neg (by rw [hc]; decide)]; rfl)
    clear hc HR
    have HOv := Lib.hid (over_I ((oT (p := p) (ck := ck) (an := an) (q := olObj) (w0 := w2) (by omega) ox_ol).rd x) (oi_refl HI2.out))
    go_wp2_with fail
    refine HOv.out.mono ?_
    rintro e w6 ⟨rfl, h6⟩
    have HB6 := Lib.hid (ob_tch HB2.out h6.2)
    have HT6 := Lib.hid (HT2.out.trans h6.2)
    have HI6 := Lib.hid h6.1
    obtain ⟨b0, b1, hgl6⟩ := ob_cells HB6.out
    have hro := HR2.out
    unfold restO at hro
    have HRo := Lib.hid hro
    clear h6 HOv hro
    by_cases hz : a0 = S.length
    · have hd : decide (a0 = S.length) = true := by simpa using hz
      rw [if_pos hz] at HRo
      rw [hd]
      clear hz hd
      go_wp2
      go_ret
      exact pr_up HT6.out (.inl ⟨a0, x, false, HRo.out.symm, rfl, oi_refl HI6.out⟩)
    · have hd : decide (a0 = S.length) = false := by simpa using hz
      rw [if_neg hz] at HRo
      rw [hd]
      have hv := value_O (S.length + 1) x a0 w6 (by omega) HOk.out HI6.out
      unfold rV at hv
      have HV := Lib.hid hv
      clear hz hd hv
      go_wp2_with fail
      refine HV.out.mono ?_
      rintro e w7 (⟨a7, x7, hr, rfl, h7⟩ | ⟨hr, k, rfl, hF⟩)
      case inr => exact ⟨rfl, pr_up HT6.out (.inr ⟨by rw [← HRo.out, hr]; rfl, k, rfl, hF⟩)⟩
      rw [hr] at HRo
      have HRp : Hid (((finB S a7).map fun a2 => (a2, x7, true)) = R) := Lib.hid HRo.out
      have HB7 := Lib.hid (ob_tch HB6.out h7.2)
      have HT7 := Lib.hid (HT6.out.trans h7.2)
      have HFi := Lib.hid (finish_I ((oT (p := p) (ck := ck) (an := an) (q := olObj) (w0 := w7) (by omega) ox_ol).rd x7) (oi_refl h7.1))
      obtain ⟨b0, b1, hgl7⟩ := ob_cells HB7.out
      clear hr h7 HV HRo HB6
      go_wp2_with fail
      refine HFi.out.mono ?_
      rintro e w8 (⟨a8, hr, rfl, h8⟩ | ⟨hr, k, rfl, hF⟩)
      case inr => exact ⟨rfl, pr_up HT7.out (.inr ⟨by rw [← HRp.out, hr]; rfl, k, rfl, hF⟩)⟩
      have H8 : Hid (some (a8, x7, true) = R ∧ OI base L p o ck an g S olObj w7 x7 a8 w8) := Lib.hid ⟨by rw [← HRp.out, hr]; rfl, h8⟩
      clear hr h8 HFi HRp
      go_wp2
      go_ret
      exact pr_up HT7.out (.inl ⟨a8, x7, true, H8.out.1.symm, rfl, H8.out.2⟩)
  | true =>
    have hal := isB_true hc
    have HR2 : Hid ((((nameP S (a0 + 1)).bind fun q => if openE x.am q.1.data.toList = 0 then (gapO S (q.2 + 1)).map fun a3 => (blk S a3, { x with am := openM x.am q.1.data.toList }) else none).bind fun q => restO S q.1 q.2) = R) := Lib.hid (by rw [← HR.out]; unfold ampO; rw [if_pos hc])
    have l1 : w2.cell? ⟨L, 1, none⟩ = some (.int .i64 (a0 : Int)) := Blk.cell HI2.out.ln 1
    have f1 := Blk.frozen HI2.out.ln 1
    have hLl := Blk.lt HI2.out.ln
    obtain ⟨a1, ha1⟩ : ∃ a1 : Nat, (a0 : Int) + 1 = a1 := ⟨a0 + 1, rfl⟩
    have hn1 : a0 + 1 = a1 := by omega
    have hb1 : a1 ≤ 1000 := by omega
    have hi3 := next_I ((oT (p := p) (ck := ck) (an := an) (q := olObj) (w0 := w2) (by omega) ox_ol).rd x) (oi_refl HI2.out) hal
    rw [hn1] at hi3 HR2
    obtain ⟨w3, hw3⟩ : ∃ w3, w2.setCell ⟨L, 1, none⟩ (.int .i64 (a1 : Int)) = w3 := ⟨_, rfl⟩
    have HW3 := Lib.hid hw3
    rw [hw3] at hi3
    have HNm := Lib.hid (name_I ((oT (p := p) (ck := ck) (an := an) (q := olObj) (w0 := w3) (by omega) ox_ol).rd x) (oi_refl hi3.1))
    have HB3 := Lib.hid (ob_tch HB2.out hi3.2)
    have HT3 := Lib.hid (HT2.out.trans hi3.2)
    have hb3 := (ob_cells HB3.out)
    rw [← hw3] at HNm hb3
    obtain ⟨c0, c1, hgl3⟩ := hb3
    have HN1 := Lib.hid hn1
    clear hc HR hi3 hw3 hn1 hal HI2 HB2
    go_wp2_with fail
    refine HNm.out.mono ?_
    rw [HW3.out]
    rintro e w4 (⟨t, a2, hr, rfl, h4⟩ | ⟨hr, k, rfl, hF⟩)
    case inr => exact ⟨rfl, pr_up HT3.out (.inr ⟨by rw [← HR2.out, hr]; rfl, k, rfl, hF⟩)⟩
    obtain ⟨k1, k2, k3⟩ := nam_fa hr
    rw [hr] at HR2
    have HR3 : Hid (((if openE x.am t.data.toList = 0 then (gapO S (a2 + 1)).map fun a3 => (blk S a3, { x with am := openM x.am t.data.toList }) else none).bind fun q => restO S q.1 q.2) = R) := Lib.hid HR2.out
    have HB4 := Lib.hid (ob_tch HB3.out h4.2)
    have HT4 := Lib.hid (HT3.out.trans h4.2)
    have HI4 := Lib.hid h4.1
    have hd4 := below_drew (Below.refl w4.heap.size w4)
    have HOp := Lib.hid (ol_open t (h4.1.belowO hd4) k3)
    have d0 : w4.drew.cell? ⟨b, 0, none⟩ = some (.pointer (some ⟨L, 0, none⟩)) := HB4.out.cell 0
    have d1 : w4.drew.cell? ⟨b, 1, none⟩ = some (.pointer (some ⟨p, 0, none⟩)) := HB4.out.cell 1
    have d2 : w4.drew.cell? ⟨p, 0, none⟩ = some (.pointer (some ⟨an, 0, none⟩)) := by obtain ⟨bv, hk, _⟩ := h4.1.blk; exact hk.cell 0
    clear hr h4 HR2 HNm HB3 l1 f1 hLl c0 c1
    go_wp2
    refine region_gp [] (S := (fun W => W.cell? ⟨b, 0, none⟩ = some (.pointer (some ⟨L, 0, none⟩)) ∧ W.cell? ⟨b, 1, none⟩ = some (.pointer (some ⟨p, 0, none⟩)) ∧ W.cell? ⟨p, 0, none⟩ = some (.pointer (some ⟨an, 0, none⟩)))) (fun c w' => Pr (OI base L p o ck an g S olObj w) (OF base L p o ck an g S olObj w) R (.panicked c) w') (by kernel_rfl) ⟨d0, d1, d2⟩ (fun c a' w' hd hR => ⟨hd, hR⟩) (fun hH => ?_)
    refine g_take (i := 0) (v := .pointer (some ⟨b, 0, none⟩)) (by rfl) (by kernel_rfl) (by kernel_rfl) (by kernel_rfl) (by kernel_rfl) (fun _ _ _ h => pan_put h) (Or.inl ⟨by kernel_rfl, fun W hS => (by obtain ⟨q1, q2, q3⟩ := hS; go_simp)⟩) hH ?_
    simp only [Act.put, List.setIfInBounds_toArray, List.set_cons_zero, List.set_cons_succ]
    refine g_take (i := 1) (v := .pointer (some ⟨L, 0, none⟩)) (by rfl) (by kernel_rfl) (by kernel_rfl) (by kernel_rfl) (by kernel_rfl) (fun _ _ _ h => pan_put h) (Or.inl ⟨by kernel_rfl, fun W hS => (by obtain ⟨q1, q2, q3⟩ := hS; go_simp)⟩) hH ?_
    simp only [Act.put, List.setIfInBounds_toArray, List.set_cons_zero, List.set_cons_succ]
    refine g_take (i := 2) (v := .pointer (some ⟨b, 1, none⟩)) (by rfl) (by kernel_rfl) (by kernel_rfl) (by kernel_rfl) (by kernel_rfl) (fun _ _ _ h => pan_put h) (Or.inl ⟨by kernel_rfl, fun W hS => (by obtain ⟨q1, q2, q3⟩ := hS; go_simp)⟩) hH ?_
    simp only [Act.put, List.setIfInBounds_toArray, List.set_cons_zero, List.set_cons_succ]
    refine g_take (i := 3) (v := .pointer (some ⟨p, 0, none⟩)) (by rfl) (by kernel_rfl) (by kernel_rfl) (by kernel_rfl) (by kernel_rfl) (fun _ _ _ h => pan_put h) (Or.inl ⟨by kernel_rfl, fun W hS => (by obtain ⟨q1, q2, q3⟩ := hS; go_simp)⟩) hH ?_
    simp only [Act.put, List.setIfInBounds_toArray, List.set_cons_zero, List.set_cons_succ]
    refine g_take (i := 4) (v := .pointer (some ⟨p, 0, none⟩)) (by rfl) (by kernel_rfl) (by kernel_rfl) (by kernel_rfl) (by kernel_rfl) (fun _ _ _ h => pan_put h) (Or.inl ⟨by kernel_rfl, fun W hS => (by obtain ⟨q1, q2, q3⟩ := hS; go_simp)⟩) hH ?_
    simp only [Act.put, List.setIfInBounds_toArray, List.set_cons_zero, List.set_cons_succ]
    refine g_take (i := 5) (v := .pointer (some ⟨p, 0, none⟩)) (by rfl) (by kernel_rfl) (by kernel_rfl) (by kernel_rfl) (by kernel_rfl) (fun _ _ _ h => pan_put h) (Or.inl ⟨by kernel_rfl, fun W hS => (by obtain ⟨q1, q2, q3⟩ := hS; go_simp)⟩) hH ?_
    simp only [Act.put, List.setIfInBounds_toArray, List.set_cons_zero, List.set_cons_succ]
    refine g_take (i := 6) (v := .pointer (some ⟨an, 0, none⟩)) (by rfl) (by kernel_rfl) (by kernel_rfl) (by kernel_rfl) (by kernel_rfl) (fun _ _ _ h => pan_put h) (Or.inl ⟨by kernel_rfl, fun W hS => (by obtain ⟨q1, q2, q3⟩ := hS; go_simp)⟩) hH ?_
    simp only [Act.put, List.setIfInBounds_toArray, List.set_cons_zero, List.set_cons_succ]
    refine g_take (i := 7) (v := .string t) (by rfl) (by kernel_rfl) (by kernel_rfl) (by kernel_rfl) (by kernel_rfl) (fun _ _ _ h => pan_put h) (Or.inl ⟨by kernel_rfl, fun W hS => (by obtain ⟨q1, q2, q3⟩ := hS; go_simp)⟩) hH ?_
    simp only [Act.put, List.setIfInBounds_toArray, List.set_cons_zero, List.set_cons_succ]
    refine g_one (i := 8) (by kernel_rfl) (by rfl) (fun K hK => ?_)
    go_simp
    refine HOp.out.mono ?_
    rintro e w5 ⟨rfl, h5⟩
    have HB5 := Lib.hid (ob_tch (HB4.out.below hd4 HB4.out.lt) h5.2)
    have HT5 := Lib.hid (HT4.out.trans ((Tch.of_below hd4).trans h5.2))
    have HI5 := Lib.hid h5.1
    obtain ⟨e0, e1, hgl5⟩ := ob_cells HB5.out
    have e2 : w5.cell? ⟨p, 0, none⟩ = some (.pointer (some ⟨an, 0, none⟩)) := by obtain ⟨bv, hk, _⟩ := h5.1.blk; exact hk.cell 0
    obtain ⟨E, hE⟩ : ∃ E, openE x.am t.data.toList = E := ⟨_, rfl⟩
    rw [hE] at HR3
    rw [hE]
    obtain ⟨x5, hx5⟩ : ∃ x5, { x with am := openM x.am t.data.toList } = x5 := ⟨_, rfl⟩
    have hlx5 : lenO x5 = lenO x := by rw [← hx5]; unfold lenO openM; split <;> rfl
    rw [hx5] at HR3 HI5
    clear h5 HOp hE HB4 HI4 hH d0 d1 d2 hd4
    refine hK.out _ _ (fun _ => ⟨e0, e1, e2⟩) (fun _ => ?_)
    clear hK K
    refine g_one (i := 9) (by kernel_rfl) (by rfl) (fun K hK => ?_)
    go_simp
    refine (must_any _ _ E).mono ?_
    rintro e w9 ⟨⟨hk, rfl⟩ | ⟨hk, rfl⟩, rfl⟩
    case inr => exact .inr ⟨_, rfl, .inr ⟨by rw [← HR3.out, if_neg hk]; rfl, E, rfl, hk, HI5.out.loose, HT5.out⟩, rfl⟩
    have HR4 : Hid ((((gapO S (a2 + 1)).map fun a3 => (blk S a3, x5)).bind fun q => restO S q.1 q.2) = R) := Lib.hid (by rw [← HR3.out, if_pos hk])
    refine hK.out _ _ (fun _ => ⟨e0, e1, e2⟩) (fun _ => ?_)
    clear hK K hk HR3 hx5
    refine g_done (by kernel_rfl) (.inl ⟨by first | rfl | trivial, ?_⟩) _
    have l1 : w9.cell? ⟨L, 1, none⟩ = some (.int .i64 (a2 : Int)) := Blk.cell HI5.out.ln 1
    have f1 := Blk.frozen HI5.out.ln 1
    have hLl := Blk.lt HI5.out.ln
    obtain ⟨a3, ha3⟩ : ∃ a3 : Nat, (a2 : Int) + 1 = a3 := ⟨a2 + 1, rfl⟩
    have hn3 : a2 + 1 = a3 := by omega
    have hb3 : a3 ≤ 1000 := by omega
    have hi6 := next_I ((oT (p := p) (ck := ck) (an := an) (q := olObj) (w0 := w9) (by omega) ox_ol).rd x5) (oi_refl HI5.out) k2
    rw [hn3] at hi6 HR4
    obtain ⟨wA, hwA⟩ : ∃ wA, w9.setCell ⟨L, 1, none⟩ (.int .i64 (a3 : Int)) = wA := ⟨_, rfl⟩
    have HWA := Lib.hid hwA
    rw [hwA] at hi6
    have hGp := gap_any (p := p) hi6.1.ln (by omega) hi6.1.al
    unfold rV at hGp
    have HGp := Lib.hid hGp
    have HBA := Lib.hid (ob_tch HB5.out hi6.2)
    have HTA := Lib.hid (HT5.out.trans hi6.2)
    have HIA := Lib.hid hi6.1
    have hbA := (ob_cells HBA.out)
    rw [← hwA] at HGp hbA
    obtain ⟨c0, c1, hglA⟩ := hbA
    clear hi6 hwA HI5 HB5 e0 e1 e2 hGp
    go_wp2_with fail
    refine HGp.out.mono ?_
    rw [HWA.out]
    intro e wB hp
    rcases pu_OI HIA.out hp with ⟨a4, hr, rfl, h6⟩ | ⟨hr, k, rfl, hF⟩
    case inr => exact ⟨rfl, pr_up HTA.out (.inr ⟨by rw [← HR4.out, hr]; rfl, k, rfl, hF⟩)⟩
    have hga := gap_fa hr
    rw [hr] at HR4
    have HR5 : Hid (restO S (blk S a4) x5 = R) := Lib.hid HR4.out
    have HBB := Lib.hid (ob_tch HBA.out h6.2)
    have HTB := Lib.hid (HTA.out.trans h6.2)
    have HBl := Lib.hid (blanks_I ((oT (p := p) (ck := ck) (an := an) (q := olObj) (w0 := wB) (by omega) ox_ol).rd x5) (oi_refl h6.1))
    obtain ⟨b0, b1, hglB⟩ := ob_cells HBB.out
    have HOk5 : Hid (OkL olM S (blk S a4) x5) := Lib.hid (by
      have h1 := HOk.out
      have h2 := HN1.out
      have h3 := le_blk S a4
      unfold OkL at *
      show lenO x5 + _ ≤ _
      have h4 : lenO x + 2 * (S.length - a0) ≤ 900000 := h1
      omega)
    clear hp hr h6 HR4 HGp HBA HIA l1 f1 hLl c0 c1
    go_wp2_with fail
    refine HBl.out.mono ?_
    rintro e wC ⟨rfl, h7⟩
    have HBC := Lib.hid (ob_tch HBB.out h7.2)
    have HTC := Lib.hid (HTB.out.trans h7.2)
    have HIC := Lib.hid h7.1
    obtain ⟨b0, b1, hglC⟩ := ob_cells HBC.out
    obtain ⟨a5, ha5⟩ : ∃ a5, blk S a4 = a5 := ⟨_, rfl⟩
    rw [ha5] at HR5 HIC HOk5
    clear h7 HBl HBB ha5
    have HOv := Lib.hid (over_I ((oT (p := p) (ck := ck) (an := an) (q := olObj) (w0 := wC) (by omega) ox_ol).rd x5) (oi_refl HIC.out))
    go_wp2_with fail
    refine HOv.out.mono ?_
    rintro e w6 ⟨rfl, h6⟩
    have HB6 := Lib.hid (ob_tch HBC.out h6.2)
    have HT6 := Lib.hid (HTC.out.trans h6.2)
    have HI6 := Lib.hid h6.1
    obtain ⟨b0, b1, hgl6⟩ := ob_cells HB6.out
    have hro := HR5.out
    unfold restO at hro
    have HRo := Lib.hid hro
    clear h6 HOv hro
    by_cases hz : a5 = S.length
    · have hd : decide (a5 = S.length) = true := by simpa using hz
      rw [if_pos hz] at HRo
      rw [hd]
      clear hz hd
      go_wp2
      go_ret
      exact pr_up HT6.out (.inl ⟨a5, x5, false, HRo.out.symm, rfl, oi_refl HI6.out⟩)
    · have hd : decide (a5 = S.length) = false := by simpa using hz
      rw [if_neg hz] at HRo
      rw [hd]
      have hv := value_O (S.length + 1) x5 a5 w6 (by omega) HOk5.out HI6.out
      unfold rV at hv
      have HV := Lib.hid hv
      clear hz hd hv
      go_wp2_with fail
      refine HV.out.mono ?_
      rintro e w7 (⟨a7, x7, hr, rfl, h7⟩ | ⟨hr, k, rfl, hF⟩)
      case inr => exact ⟨rfl, pr_up HT6.out (.inr ⟨by rw [← HRo.out, hr]; rfl, k, rfl, hF⟩)⟩
      rw [hr] at HRo
      have HRp : Hid (((finB S a7).map fun a2 => (a2, x7, true)) = R) := Lib.hid HRo.out
      have HB7 := Lib.hid (ob_tch HB6.out h7.2)
      have HT7 := Lib.hid (HT6.out.trans h7.2)
      have HFi := Lib.hid (finish_I ((oT (p := p) (ck := ck) (an := an) (q := olObj) (w0 := w7) (by omega) ox_ol).rd x7) (oi_refl h7.1))
      obtain ⟨b0, b1, hgl7⟩ := ob_cells HB7.out
      clear hr h7 HV HRo HB6
      go_wp2_with fail
      refine HFi.out.mono ?_
      rintro e w8 (⟨a8, hr, rfl, h8⟩ | ⟨hr, k, rfl, hF⟩)
      case inr => exact ⟨rfl, pr_up HT7.out (.inr ⟨by rw [← HRp.out, hr]; rfl, k, rfl, hF⟩)⟩
      have H8 : Hid (some (a8, x7, true) = R ∧ OI base L p o ck an g S olObj w7 x7 a8 w8) := Lib.hid ⟨by rw [← HRp.out, hr]; rfl, h8⟩
      clear hr h8 HFi HRp
      go_wp2
      go_ret
      exact pr_up HT7.out (.inl ⟨a8, x7, true, H8.out.1.symm, rfl, H8.out.2⟩)
end
end Go.Proofs.YtalkjgijmceifaaGreatDoor
namespace Go.Proofs.YtalkjgijmceifaaGreatDoor
open Go.RowKit Go.Maps
set_option maxRecDepth 100000
set_option linter.unusedSimpArgs false
set_option linter.unusedVariables false
set_option linter.unusedSectionVars false
set_option linter.unusedSectionVars false
variable [Tab] [Fo]

def pzO : Obj → Prop
  | .cells _ t _ => t = 72
  | _ => False
theorem pz_ol (q : Obj) (h : pzO q) : olObj q := by
  cases q <;> simp only [pzO] at h
  exact .inr (.inl h)
section
variable {base L p o ck an g : Nat} {S : List UInt8} {x : Ox} {a : Nat} {w w' w0 w1 W : World} {q : Obj → Prop}
/-- A store into the parser's block. -/
theorem OlI.pset (h : OlI base L p o ck an g S x a w) (i : Nat) (u : Value) {y : Ox} (hst : y.st = x.st) (hl : y.l = x.l) (ham : y.am = x.am) (hbn : y.bk.length ≤ 1000)
    (hb : Tch base pzO w (w.setCell ⟨p, i, none⟩ u) → ∃ bv, Blk (w.setCell ⟨p, i, none⟩ u) p 72 #[.pointer (some ⟨an, 0, none⟩), bv, .bool y.lk, .bool y.en] ∧ ORow (w.setCell ⟨p, i, none⟩ u) base 3 bv (y.bk.map (.int .i64)) ∧ NF bv) :
    OlI base L p o ck an g S y a (w.setCell ⟨p, i, none⟩ u) ∧ Tch base olObj w (w.setCell ⟨p, i, none⟩ u) := by
  obtain ⟨bv, hB, _, _⟩ := h.blk
  obtain ⟨T, hT⟩ := h.oa
  have ht : Tch base pzO w (w.setCell ⟨p, i, none⟩ u) := (Tch.refl _ _ _).set hB h.pl.2.2.1 h.pl.2.2.2.2.2 (show pzO (.cells _ _ _) from rfl) i u
  have hno : ∀ cs t fr, t ≠ 72 → ¬ pzO (.cells cs t fr) := fun cs t fr hh hc => hh (by simpa only [pzO] using hc)
  refine ⟨⟨Blk.tch h.ln ht (.inr (hno _ _ _ (by decide))), h.al, h.s9, h.oth.tch ht (.inr (hno _ _ _ (by decide))), hb ht, ⟨T, ?_⟩, h.std.tch ht h.pl.1, h.pl' (by rw [Qt.size_set]; exact Nat.le_refl _), h.tk.of hst hl ham, hbn, by rw [hl]; exact h.lb⟩, ht.wide pz_ol⟩
  rw [hst, hl, ham]
  refine hT.tch ht (fun r hr hc => ?_)
  cases r with
  | cells cs t fr => simp only [pzO] at hc; subst hc; exact tA_no _ _ _ (by simp) hr
  | _ => exact hc
theorem OlI.setlk (h : OlI base L p o ck an g S x a w) (v : Bool) : OlI base L p o ck an g S { x with lk := v } a (w.setCell ⟨p, 2, none⟩ (.bool v)) ∧ Tch base olObj w (w.setCell ⟨p, 2, none⟩ (.bool v)) :=
  h.pset 2 _ rfl rfl rfl h.bn fun ht => by
    obtain ⟨bv, hB, hR, hf⟩ := h.blk
    exact ⟨bv, hB.set_ 2 _, row_tch hR ht (fun _ _ => by simp only [pzO]; decide), hf⟩
theorem OlI.seten (h : OlI base L p o ck an g S x a w) : OlI base L p o ck an g S { x with en := true } a (w.setCell ⟨p, 3, none⟩ (.bool true)) ∧ Tch base olObj w (w.setCell ⟨p, 3, none⟩ (.bool true)) :=
  h.pset 3 _ rfl rfl rfl h.bn fun ht => by
    obtain ⟨bv, hB, hR, hf⟩ := h.blk
    exact ⟨bv, hB.set_ 3 _, row_tch hR ht (fun _ _ => by simp only [pzO]; decide), hf⟩
/-- What the parser's block says of the open blocks. -/
theorem bk_cells (h : OlI base L p o ck an g S x a w) : ∃ A cap, w.cell? ⟨p, 1, none⟩ = some (.slice A x.bk.length cap) ∧ x.bk.length ≤ cap ∧ w.frozen? ⟨p, 1, none⟩ = false ∧ w.frozen? ⟨p, 2, none⟩ = false ∧ w.frozen? ⟨p, 3, none⟩ = false ∧ p < w.heap.size ∧ w.cell? ⟨p, 0, none⟩ = some (.pointer (some ⟨an, 0, none⟩)) ∧ w.cell? ⟨p, 2, none⟩ = some (.bool x.lk) ∧ w.cell? ⟨p, 3, none⟩ = some (.bool x.en) ∧
    (0 < x.bk.length → ∃ k, A = some ⟨k, 0, none⟩ ∧ ∀ j (hj : j < x.bk.length), w.cell? ⟨k, j, none⟩ = some (.int .i64 x.bk[j])) := by
  obtain ⟨bv, hB, hR, hnf⟩ := h.blk
  have hl : (x.bk.map (Value.int .i64)).length = x.bk.length := List.length_map ..
  obtain ⟨A, cap, hv⟩ := hR.shape
  have hR0 := hR
  rw [hl] at hv
  subst hv
  refine ⟨A, cap, hB.cell 1, ?_, hB.frozen 1, hB.frozen 2, hB.frozen 3, hB.lt, hB.cell 0, hB.cell 2, hB.cell 3, fun h0 => ?_⟩
  · rcases hR.2 with ⟨e, h0⟩ | ⟨k, c2, cur, e, _, _, hc, _⟩
    · injection e with _ e2 _; omega
    · injection e with _ _ e3; rw [hl] at hc; omega
  · rcases hR.2 with ⟨e, h1⟩ | ⟨k, c2, cur, e, _, hh, hc, hm, hs, ht⟩
    · injection e with _ e2 _; omega
    · injection e with e1 _ _
      refine ⟨k, e1, fun j hj => ?_⟩
      have h1 : (cur.toList.take (x.bk.length * 1))[j]? = (x.bk.map (Value.int .i64))[j]? := by rw [hl] at ht; rw [ht]
      rw [List.getElem?_take_of_lt (by omega), List.getElem?_map, List.getElem?_eq_getElem hj] at h1
      have h2 : cur[j]? = some (.int .i64 x.bk[j]) := by rw [← Array.getElem?_toList]; exact h1
      rw [Blk.cell hh]
      exact h2
theorem dash_fa {a' : Nat} (h : dashO S a = some a') : a ≤ a' := by
  unfold dashO at h
  cases he : eatB S a 45 with
  | none => rw [he] at h; cases h
  | some a1 =>
    rw [he] at h
    have := (eatB_some he).1
    have := gap_fa (show gapO S a1 = some a' from h)
    omega
set_option maxHeartbeats 16000000 in
theorem entry_O (hok : OkL olM S a x) (hbk : 0 < x.bk.length) (h : OlI base L p o ck an g S x a w) :
    Calls Tryz.prog 180 #[rV L p] w (Pq (OI base L p o ck an g S olObj w) (OF base L p o ck an g S olObj w) (entryO S a x)) := by
  obtain ⟨b, W, hg, hW, hB, hlt, hi, hT⟩ := rboxO (q := olObj) h
  have hbn := hi.bn
  have HU := Lib.hid (Tch.trans hT (Tch.of_below (below_drew (Below.refl W.heap.size W))))
  have hBd : Blk W.drew b 221 #[.pointer (some ⟨L, 0, none⟩), .pointer (some ⟨p, 0, none⟩)] := hB
  have HB := Lib.hid hBd
  have HI := Lib.hid (hi.belowO (below_drew (Below.refl _ _)))
  obtain ⟨R, hR⟩ : ∃ R, entryO S a x = R := ⟨_, rfl⟩
  rw [hR]
  unfold entryO entryHead at hR
  have h160 := hi.s9
  obtain ⟨A, cap, p1, hcap, _, _, _, hpl, _, _, _, hcs⟩ := bk_cells hi
  obtain ⟨kb, rfl, hcell⟩ := hcs hbk
  obtain ⟨m, hm⟩ : ∃ m, x.bk.length - 1 = m := ⟨_, rfl⟩
  have pk := hcell m (by omega)
  have hlast : x.bk.getLast? = some x.bk[m] := by rw [List.getLast?_eq_getElem?, hm, List.getElem?_eq_getElem (by omega)]
  rw [hlast] at hR
  obtain ⟨kk, hkk⟩ : ∃ kk, x.bk[m] = kk := ⟨_, rfl⟩
  rw [hkk] at hR pk
  obtain ⟨n, hn⟩ : ∃ n, x.bk.length = n := ⟨_, rfl⟩
  rw [hn] at p1 hcap hbk hm hbn
  have hnm : (n : Int) - 1 = (m : Int) := by omega
  have HR := Lib.hid hR
  have HOk := Lib.hid hok
  have b0 : W.cell? ⟨b, 0, none⟩ = some (.pointer (some ⟨L, 0, none⟩)) := hB.cell 0
  have b1 : W.cell? ⟨b, 1, none⟩ = some (.pointer (some ⟨p, 0, none⟩)) := hB.cell 1
  have hmn : m < n := by omega
  unfold rV
  clear h hT hB hBd hi hR hok hcell hcs hlast hkk hn hm hbk
  go_enter Tryz.func180, Tryz.ntmps180
  cases hc : (kk == (5 : Int)) with
  | true =>
    have e5 : kk = 5 := by simpa using hc
    rw [if_pos (by rw [e5])] at HR
    have HR1 : Hid (((dashO S a).map fun a1 => (a1, x)).bind (fun q => (partO S q.1 q.2).map fun r => (r.1, { r.2.1 with lk := !r.2.2 })) = R) := Lib.hid HR.out
    have hD := dash_any (p := p) HI.out.ln (by omega) HI.out.al
    unfold rV at hD
    have HD := Lib.hid hD
    clear hD HR e5
    go_wp2
    go_region
    go_wp2_with fail
    refine HD.out.mono ?_
    intro e w1 hp
    rcases pu_OI HI.out hp with ⟨a1, hr, rfl, h1⟩ | ⟨hr, k, rfl, hF⟩
    case inr => exact ⟨rfl, poq_up HU.out (.inr ⟨by rw [← HR1.out, hr]; rfl, k, rfl, hF⟩)⟩
    have hda : a ≤ a1 := dash_fa hr
    rw [hr] at HR1
    have HR2 : Hid (((partO S a1 x).map fun r => (r.1, { r.2.1 with lk := !r.2.2 })) = R) := Lib.hid HR1.out
    have HB1 := Lib.hid (ob_tch HB.out h1.2)
    have HT1 := Lib.hid (HU.out.trans h1.2)
    have HI1 := Lib.hid h1.1
    have HOk1 := Lib.hid (okL_mono hda HOk.out)
    obtain ⟨b0, b1, hgl1⟩ := ob_cells HB1.out
    clear hp hr h1 HR1 HD HB HI hda pk p1 hc
    have hd_w1 := below_drew (Below.refl w1.heap.size w1)
    have hIdz := HI1.out.belowO hd_w1
    have hpz := part_O (p := p) HOk1.out hIdz
    unfold rV at hpz
    have HPz := Lib.hid hpz
    have HBz := Lib.hid (HB1.out.below hd_w1 HB1.out.lt)
    have HTz := Lib.hid (HT1.out.trans (Tch.of_below hd_w1))
    have z0 : w1.drew.cell? ⟨b, 0, none⟩ = some (.pointer (some ⟨L, 0, none⟩)) := HBz.out.cell 0
    have z1 : w1.drew.cell? ⟨b, 1, none⟩ = some (.pointer (some ⟨p, 0, none⟩)) := HBz.out.cell 1
    clear hIdz hpz hd_w1
    go_wp2
    refine region_gp [7] (S := (fun W => W.cell? ⟨b, 0, none⟩ = some (.pointer (some ⟨L, 0, none⟩)) ∧ W.cell? ⟨b, 1, none⟩ = some (.pointer (some ⟨p, 0, none⟩)))) (fun c w' => Pq (OI base L p o ck an g S olObj w) (OF base L p o ck an g S olObj w) R (.panicked c) w') (by kernel_rfl) ⟨z0, z1⟩ (fun c a' w' hd hR => ⟨hd, hR⟩) (fun hH => ?_)
    refine g_take (i := 0) (v := .pointer (some ⟨b, 1, none⟩)) (by rfl) (by kernel_rfl) (by kernel_rfl) (by kernel_rfl) (by kernel_rfl) (fun _ _ _ h => pan_put h) (Or.inl ⟨by kernel_rfl, fun W hS => (by obtain ⟨q1, q2⟩ := hS; go_simp)⟩) hH ?_
    simp only [Act.put, List.setIfInBounds_toArray, List.set_cons_zero, List.set_cons_succ]
    refine g_take (i := 1) (v := .pointer (some ⟨p, 0, none⟩)) (by rfl) (by kernel_rfl) (by kernel_rfl) (by kernel_rfl) (by kernel_rfl) (fun _ _ _ h => pan_put h) (Or.inl ⟨by kernel_rfl, fun W hS => (by obtain ⟨q1, q2⟩ := hS; go_simp)⟩) hH ?_
    simp only [Act.put, List.setIfInBounds_toArray, List.set_cons_zero, List.set_cons_succ]
    refine g_take (i := 2) (v := .agg #[.pointer (some ⟨L, 0, none⟩), .pointer (some ⟨p, 0, none⟩)]) (by rfl) (by kernel_rfl) (by kernel_rfl) (by kernel_rfl) (by kernel_rfl) (fun _ _ _ h => pan_put h) (Or.inl ⟨by kernel_rfl, fun W hS => (by obtain ⟨q1, q2⟩ := hS; go_simp)⟩) hH ?_
    simp only [Act.put, List.setIfInBounds_toArray, List.set_cons_zero, List.set_cons_succ]
    refine g_one (i := 3) (by kernel_rfl) (by rfl) (fun K hK => ?_)
    go_simp
    refine HPz.out.mono ?_
    rintro e wE (⟨aE, xE, bb, hr, rfl, hE⟩ | ⟨hr, k, rfl, hF⟩)
    case inr => exact .inr ⟨_, rfl, poq_up HTz.out (.inr ⟨by rw [← HR2.out, hr]; rfl, k, rfl, hF⟩), rfl⟩
    rw [hr] at HR2
    have HRE : Hid (some (aE, { xE with lk := !bb }) = R) := Lib.hid HR2.out
    obtain ⟨y0, y1, hgE⟩ := ob_cells (ob_tch HBz.out hE.2)
    obtain ⟨_, _, _, _, _, pf2, _, ppl, _, _, _, _⟩ := bk_cells hE.1
    have hset := hE.1.setlk (!bb)
    have HIE : Hid (OI base L p o ck an g S olObj w1.drew { xE with lk := !bb } aE (wE.setCell ⟨p, 2, none⟩ (.bool (!bb)))) := Lib.hid ⟨hset.1, hE.2.trans hset.2⟩
    refine hK.out _ _ (fun _ => ⟨y0, y1⟩) (fun _ => ?_)
    clear hK K hr HR2 hset hE HPz hH z0 z1
    refine g_one (i := 4) (by kernel_rfl) (by rfl) (fun K hK => ?_)
    go_simp
    refine hK.out _ _ (fun _ => ⟨y0, y1⟩) (fun _ => ?_)
    clear hK K
    refine g_one (i := 5) (by kernel_rfl) (by rfl) (fun K hK => ?_)
    go_simp
    refine hK.out _ _ (fun _ => ⟨y0, y1⟩) (fun _ => ?_)
    clear hK K
    refine g_one (i := 6) (by kernel_rfl) (by rfl) (fun K hK => ?_)
    go_simp
    refine hK.out _ _ (fun _ => ⟨y0, y1⟩) (fun _ => ?_)
    clear hK K
    refine g_one (i := 7) (by kernel_rfl) (by rfl) (fun K hK => ?_)
    go_simp
    refine hK.out _ _ (fun h => absurd (List.mem_singleton.2 rfl) h) (fun _ => ?_)
    clear hK K
    refine g_done (by kernel_rfl) (.inl ⟨by first | rfl | trivial, ?_⟩) _
    go_wp2
    go_end0
    exact poq_up HTz.out (.inl ⟨aE, _, HRE.out.symm, rfl, HIE.out⟩)
  | false =>
    have e5 : ¬ kk = 5 := by simpa using hc
    rw [if_neg (by intro e; exact e5 (Option.some.inj e))] at HR
    have HR1 : Hid ((((keyO S a).bind fun q => (lastM olM q.2 x (evT 8 q.1)).bind fun p => (colonO S p.1).bind fun a2 => (gapO S a2).map fun a3 => (a3, p.2)).bind fun q => (partO S q.1 q.2).map fun r => (r.1, { r.2.1 with lk := !r.2.2 })) = R) := Lib.hid HR.out
    have hd2 := below_drew (Below.refl W.drew.heap.size W.drew)
    have HU2 := Lib.hid (HU.out.trans (Tch.of_below hd2))
    have HB2 := Lib.hid (HB.out.below hd2 HB.out.lt)
    have HI2 := Lib.hid (HI.out.belowO hd2)
    have hK := keyo_any (p := p) HI2.out.ln (by omega) HI2.out.al HI2.out.lim'
    unfold rV at hK
    have HK := Lib.hid hK
    have k0 : W.drew.drew.cell? ⟨b, 0, none⟩ = some (.pointer (some ⟨L, 0, none⟩)) := HB2.out.cell 0
    have k1 : W.drew.drew.cell? ⟨b, 1, none⟩ = some (.pointer (some ⟨p, 0, none⟩)) := HB2.out.cell 1
    clear hK HR e5 HB HI hd2
    go_wp2
    go_region
    go_wp2
    refine region_gp [] (S := (fun W => W.cell? ⟨b, 0, none⟩ = some (.pointer (some ⟨L, 0, none⟩)) ∧ W.cell? ⟨b, 1, none⟩ = some (.pointer (some ⟨p, 0, none⟩)))) (fun c w' => Pq (OI base L p o ck an g S olObj w) (OF base L p o ck an g S olObj w) R (.panicked c) w') (by kernel_rfl) ⟨k0, k1⟩ (fun c a' w' hd hR => ⟨hd, hR⟩) (fun hH => ?_)
    refine g_take (i := 0) (v := .pointer (some ⟨b, 0, none⟩)) (by rfl) (by kernel_rfl) (by kernel_rfl) (by kernel_rfl) (by kernel_rfl) (fun _ _ _ h => pan_put h) (Or.inl ⟨by kernel_rfl, fun W hS => (by obtain ⟨q1, q2⟩ := hS; go_simp)⟩) hH ?_
    simp only [Act.put, List.setIfInBounds_toArray, List.set_cons_zero, List.set_cons_succ]
    refine g_take (i := 1) (v := .pointer (some ⟨L, 0, none⟩)) (by rfl) (by kernel_rfl) (by kernel_rfl) (by kernel_rfl) (by kernel_rfl) (fun _ _ _ h => pan_put h) (Or.inl ⟨by kernel_rfl, fun W hS => (by obtain ⟨q1, q2⟩ := hS; go_simp)⟩) hH ?_
    simp only [Act.put, List.setIfInBounds_toArray, List.set_cons_zero, List.set_cons_succ]
    refine g_take (i := 2) (v := .agg #[.pointer (some ⟨L, 0, none⟩), .pointer (some ⟨p, 0, none⟩)]) (by rfl) (by kernel_rfl) (by kernel_rfl) (by kernel_rfl) (by kernel_rfl) (fun _ _ _ h => pan_put h) (Or.inl ⟨by kernel_rfl, fun W hS => (by obtain ⟨q1, q2⟩ := hS; go_simp)⟩) hH ?_
    simp only [Act.put, List.setIfInBounds_toArray, List.set_cons_zero, List.set_cons_succ]
    refine g_one (i := 3) (by kernel_rfl) (by rfl) (fun K hK => ?_)
    go_simp
    refine HK.out.mono ?_
    intro e w1 hp
    rcases ps_OI HI2.out hp with ⟨t, a1, hr, rfl, h1⟩ | ⟨hr, k, rfl, hF⟩
    case inr => exact .inr ⟨_, rfl, poq_up HU2.out (.inr ⟨by rw [← HR1.out, hr]; rfl, k, rfl, hF⟩), rfl⟩
    obtain ⟨j1, j2, j3⟩ := keyo_fa hr
    rw [hr] at HR1
    have HR2 : Hid ((((lastM olM a1 x (evT 8 t)).bind fun p => (colonO S p.1).bind fun a2 => (gapO S a2).map fun a3 => (a3, p.2)).bind fun q => (partO S q.1 q.2).map fun r => (r.1, { r.2.1 with lk := !r.2.2 })) = R) := Lib.hid HR1.out
    have hB1 := ob_tch HB2.out h1.2
    have c0 : w1.cell? ⟨b, 0, none⟩ = some (.pointer (some ⟨L, 0, none⟩)) := hB1.cell 0
    have c1 : w1.cell? ⟨b, 1, none⟩ = some (.pointer (some ⟨p, 0, none⟩)) := hB1.cell 1
    have HB1 := Lib.hid hB1
    have HT1 := Lib.hid (HU2.out.trans h1.2)
    have HL := Lib.hid (last_T (oT (p := p) (ck := ck) (an := an) (q := olObj) (w0 := w1) (by omega) ox_ol) (evT 8 t) (oi_refl h1.1) (Nat.le_trans (Nat.le_add_right _ _) HOk.out) j3 j2)
    clear hp hB1 h1 hr HR1 HK hH k0 k1
    refine hK.out _ _ (fun _ => ⟨c0, c1⟩) (fun _ => ?_)
    clear hK K
    refine g_one (i := 4) (by kernel_rfl) (by rfl) (fun K hK => ?_)
    go_simp
    refine hK.out _ _ (fun _ => ⟨c0, c1⟩) (fun _ => ?_)
    clear hK K
    refine g_one (i := 5) (by kernel_rfl) (by rfl) (fun K hK => ?_)
    go_simp
    refine HL.out.mono ?_
    rintro e w2 (⟨a2, x2, hr, rfl, h2⟩ | ⟨hr, k, rfl, hF⟩)
    case inr => exact .inr ⟨_, rfl, poq_up HT1.out (.inr ⟨by rw [← HR2.out, hr]; rfl, k, rfl, hF⟩), rfl⟩
    obtain ⟨i1, i2, _⟩ := last_fa hr
    rw [hr] at HR2
    have HR3 : Hid ((((colonO S a2).bind fun a3 => (gapO S a3).map fun a4 => (a4, x2)).bind fun q => (partO S q.1 q.2).map fun r => (r.1, { r.2.1 with lk := !r.2.2 })) = R) := Lib.hid HR2.out
    have HB3 := Lib.hid (ob_tch HB1.out h2.2)
    have HT3 := Lib.hid (HT1.out.trans h2.2)
    have HI3 := Lib.hid h2.1
    have hbx := ob_cells HB3.out
    have hCo := colon_any (p := p) h2.1.ln (by omega) h2.1.al
    unfold rV at hCo
    have HCo := Lib.hid hCo
    have hok2 : OkL olM S a2 x2 := by have := HOk.out; unfold OkL at *; have e1 : lenO x2 = lenO x + 1 := i2; show lenO x2 + _ ≤ _; have e2 : lenO x + 2 * (S.length - a) ≤ 900000 := this; omega
    have HOk2 := Lib.hid hok2
    obtain ⟨e0, e1, hgl3⟩ := hbx
    clear hr h2 HR2 HL i2 hok2 HB1 hCo
    refine hK.out _ _ (fun _ => ⟨e0, e1⟩) (fun _ => ?_)
    clear hK K c0 c1
    refine g_done (by kernel_rfl) (.inl ⟨by first | rfl | trivial, ?_⟩) _
    go_wp2_with fail
    refine HCo.out.mono ?_
    intro e w3 hp
    rcases pu_OI HI3.out hp with ⟨a3, hr, rfl, h3⟩ | ⟨hr, k, rfl, hF⟩
    case inr => exact ⟨rfl, poq_up HT3.out (.inr ⟨by rw [← HR3.out, hr]; rfl, k, rfl, hF⟩)⟩
    obtain ⟨l1, l2⟩ := colon_fa hr
    rw [hr] at HR3
    have HR4 : Hid ((((gapO S a3).map fun a4 => (a4, x2)).bind fun q => (partO S q.1 q.2).map fun r => (r.1, { r.2.1 with lk := !r.2.2 })) = R) := Lib.hid HR3.out
    have HB4 := Lib.hid (ob_tch HB3.out h3.2)
    have HT4 := Lib.hid (HT3.out.trans h3.2)
    have HI4 := Lib.hid h3.1
    have hGp := gap_any (p := p) h3.1.ln (by omega) h3.1.al
    unfold rV at hGp
    have HGp := Lib.hid hGp
    obtain ⟨e0, e1, hgl4⟩ := ob_cells HB4.out
    clear hp hr h3 HCo HR3 HI3 HB3 hGp
    go_wp2_with fail
    refine HGp.out.mono ?_
    intro e w4 hp
    rcases pu_OI HI4.out hp with ⟨a4, hr, rfl, h4⟩ | ⟨hr, k, rfl, hF⟩
    case inr => exact ⟨rfl, poq_up HT4.out (.inr ⟨by rw [← HR4.out, hr]; rfl, k, rfl, hF⟩)⟩
    have hga := gap_fa hr
    rw [hr] at HR4
    have HR5 : Hid (((partO S a4 x2).map fun r => (r.1, { r.2.1 with lk := !r.2.2 })) = R) := Lib.hid HR4.out
    have HB5 := Lib.hid (ob_tch HB4.out h4.2)
    have HT5 := Lib.hid (HT4.out.trans h4.2)
    have HI5 := Lib.hid h4.1
    have HOk5 := Lib.hid (okL_mono (show a2 ≤ a4 by omega) HOk2.out)
    obtain ⟨e0, e1, hgl5⟩ := ob_cells HB5.out
    clear hp hr h4 HGp HR4 HI4 HB4
    have hd_w4 := below_drew (Below.refl w4.heap.size w4)
    have hIdz := HI5.out.belowO hd_w4
    have hpz := part_O (p := p) HOk5.out hIdz
    unfold rV at hpz
    have HPz := Lib.hid hpz
    have HBz := Lib.hid (HB5.out.below hd_w4 HB5.out.lt)
    have HTz := Lib.hid (HT5.out.trans (Tch.of_below hd_w4))
    have z0 : w4.drew.cell? ⟨b, 0, none⟩ = some (.pointer (some ⟨L, 0, none⟩)) := HBz.out.cell 0
    have z1 : w4.drew.cell? ⟨b, 1, none⟩ = some (.pointer (some ⟨p, 0, none⟩)) := HBz.out.cell 1
    clear hIdz hpz hd_w4
    go_wp2
    refine region_gp [7] (S := (fun W => W.cell? ⟨b, 0, none⟩ = some (.pointer (some ⟨L, 0, none⟩)) ∧ W.cell? ⟨b, 1, none⟩ = some (.pointer (some ⟨p, 0, none⟩)))) (fun c w' => Pq (OI base L p o ck an g S olObj w) (OF base L p o ck an g S olObj w) R (.panicked c) w') (by kernel_rfl) ⟨z0, z1⟩ (fun c a' w' hd hR => ⟨hd, hR⟩) (fun hH => ?_)
    refine g_take (i := 0) (v := .pointer (some ⟨b, 1, none⟩)) (by rfl) (by kernel_rfl) (by kernel_rfl) (by kernel_rfl) (by kernel_rfl) (fun _ _ _ h => pan_put h) (Or.inl ⟨by kernel_rfl, fun W hS => (by obtain ⟨q1, q2⟩ := hS; go_simp)⟩) hH ?_
    simp only [Act.put, List.setIfInBounds_toArray, List.set_cons_zero, List.set_cons_succ]
    refine g_take (i := 1) (v := .pointer (some ⟨p, 0, none⟩)) (by rfl) (by kernel_rfl) (by kernel_rfl) (by kernel_rfl) (by kernel_rfl) (fun _ _ _ h => pan_put h) (Or.inl ⟨by kernel_rfl, fun W hS => (by obtain ⟨q1, q2⟩ := hS; go_simp)⟩) hH ?_
    simp only [Act.put, List.setIfInBounds_toArray, List.set_cons_zero, List.set_cons_succ]
    refine g_take (i := 2) (v := .agg #[.pointer (some ⟨L, 0, none⟩), .pointer (some ⟨p, 0, none⟩)]) (by rfl) (by kernel_rfl) (by kernel_rfl) (by kernel_rfl) (by kernel_rfl) (fun _ _ _ h => pan_put h) (Or.inl ⟨by kernel_rfl, fun W hS => (by obtain ⟨q1, q2⟩ := hS; go_simp)⟩) hH ?_
    simp only [Act.put, List.setIfInBounds_toArray, List.set_cons_zero, List.set_cons_succ]
    refine g_one (i := 3) (by kernel_rfl) (by rfl) (fun K hK => ?_)
    go_simp
    refine HPz.out.mono ?_
    rintro e wE (⟨aE, xE, bb, hr, rfl, hE⟩ | ⟨hr, k, rfl, hF⟩)
    case inr => exact .inr ⟨_, rfl, poq_up HTz.out (.inr ⟨by rw [← HR5.out, hr]; rfl, k, rfl, hF⟩), rfl⟩
    rw [hr] at HR5
    have HRE : Hid (some (aE, { xE with lk := !bb }) = R) := Lib.hid HR5.out
    obtain ⟨y0, y1, hgE⟩ := ob_cells (ob_tch HBz.out hE.2)
    obtain ⟨_, _, _, _, _, pf2, _, ppl, _, _, _, _⟩ := bk_cells hE.1
    have hset := hE.1.setlk (!bb)
    have HIE : Hid (OI base L p o ck an g S olObj w4.drew { xE with lk := !bb } aE (wE.setCell ⟨p, 2, none⟩ (.bool (!bb)))) := Lib.hid ⟨hset.1, hE.2.trans hset.2⟩
    refine hK.out _ _ (fun _ => ⟨y0, y1⟩) (fun _ => ?_)
    clear hK K hr HR5 hset hE HPz hH z0 z1
    refine g_one (i := 4) (by kernel_rfl) (by rfl) (fun K hK => ?_)
    go_simp
    refine hK.out _ _ (fun _ => ⟨y0, y1⟩) (fun _ => ?_)
    clear hK K
    refine g_one (i := 5) (by kernel_rfl) (by rfl) (fun K hK => ?_)
    go_simp
    refine hK.out _ _ (fun _ => ⟨y0, y1⟩) (fun _ => ?_)
    clear hK K
    refine g_one (i := 6) (by kernel_rfl) (by rfl) (fun K hK => ?_)
    go_simp
    refine hK.out _ _ (fun _ => ⟨y0, y1⟩) (fun _ => ?_)
    clear hK K
    refine g_one (i := 7) (by kernel_rfl) (by rfl) (fun K hK => ?_)
    go_simp
    refine hK.out _ _ (fun h => absurd (List.mem_singleton.2 rfl) h) (fun _ => ?_)
    clear hK K
    refine g_done (by kernel_rfl) (.inl ⟨by first | rfl | trivial, ?_⟩) _
    go_wp2
    go_end0
    exact poq_up HTz.out (.inl ⟨aE, _, HRE.out.symm, rfl, HIE.out⟩)
end
end Go.Proofs.YtalkjgijmceifaaGreatDoor
