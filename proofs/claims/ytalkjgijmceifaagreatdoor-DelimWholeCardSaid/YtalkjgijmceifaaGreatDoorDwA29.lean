/-
  delim: tellCell.
-/
import Derived.Test.YtalkjgijmceifaaGreatDoorDwA28
import Derived.StillTailTactics
namespace Go.Proofs.YtalkjgijmceifaaGreatDoor
open Go.RowKit Go.Maps
set_option maxRecDepth 100000
set_option linter.unusedSimpArgs false
set_option linter.unusedVariables false
set_option linter.unusedSectionVars false
variable [Tab] [Fo]

set_option maxHeartbeats 8000000 in
theorem dtellcell_any (w : World) (base m o ck : Nat) (s : Ds) (t : List UInt8) (h : DX w base m o ck s) (hnc0 : s.m.n < s.m.cols.length) (hn8 : s.m.n ≤ 1000) (hcz : ∀ c ∈ s.m.cols, c.length ≤ 48) (htz : t.length ≤ 140737488355328) (hg : Good s.st) (hl : s.l.length ≤ 900000) :
    Calls Tryz.prog 153 #[.pointer (some ⟨m, 0, none⟩), .string ⟨t.toArray⟩, .pointer (some ⟨o, 0, none⟩)] w (DPo w base m o ck (tellCellD s t)) := by
  obtain ⟨mm, st, l⟩ := s
  simp only at hnc0 hn8 hcz hg hl
  obtain ⟨cv, g, hM⟩ := h.mc
  have hM' : DmAt w base m mm cv g := hM
  obtain ⟨_, _, _, c3, _⟩ := hM'.cells
  have hlt := hM'.lt
  obtain ⟨n, hn'⟩ : ∃ n, mm.n = n := ⟨_, rfl⟩
  rw [hn'] at c3
  have hnc : n < mm.cols.length := by rw [← hn']; exact hnc0
  have hn1000 : n ≤ 1000 := by rw [← hn']; exact hn8
  have hsz : (mm.cols.getD n []).length ≤ 140737488355328 := by
    rw [List.getD_eq_getElem?_getD, List.getElem?_eq_getElem hnc]
    exact Nat.le_trans (hcz _ (List.getElem_mem hnc)) (by decide)
  clear hM hM' hnc0 hn8
  by_cases hn0 : n = 0
  · have hT := h.tell (bare 7) hg (by decide) (bare_size 7) (by show l.length ≤ 1000000; omega)
    have hR : rowD ⟨mm, st, l⟩ = tellD mm st l (bare 7) := by unfold rowD; rw [if_pos (by rw [← hn0]; exact hn')]
    have z0 : ((n : Int) == 0) = true := by rw [hn0]; rfl
    have hg1 : Good (stepS st (bare 7)) := good_step hg _
    have hl1' : (tellL st l (bare 7)).length + 1 ≤ 1000000 := by have := tellL_len st l (bare 7); omega
    have hl1 : (tellL st l (bare 7)).length ≤ 1000000 := by omega
    have HH := Lib.hid hT
    clear hT h hn0
    go_enter Tryz.func153, Tryz.ntmps153
    go_wp2_with fail
    refine HH.out.mono ?_
    rintro e W ⟨rfl, hX, ht⟩
    have HT := Lib.hid (ht.wide fun _ => d_t)
    clear ht HH c3 hlt
    by_cases h1 : stepE st (bare 7) = 0
    case neg =>
      have z1 : (stepE st (bare 7) == 0) = false := by rw [beq_eq_false_iff_ne]; exact h1
      have z2 : (stepE st (bare 7) != 0) = true := by simp [bne, z1]
      have HF : Hid (DPo w base m o ck (tellCellD ⟨mm, st, l⟩ t) (.returned (.int .i64 (stepE st (bare 7)))) W) := Lib.hid (by
        unfold tellCellD
        rw [if_pos (by rw [hR]; exact h1), hR]
        exact ⟨rfl, hX, HT.out⟩)
      clear hX hR h1
      simp only at z1 z2 ⊢
      generalize stepE st (bare 7) = E at *
      go_wp2
      go_ret
      exact HF.out
    case pos =>
      have HR : Hid ((rowD ⟨mm, st, l⟩).b = ⟨mm, stepS st (bare 7), tellL st l (bare 7)⟩ ∧ (rowD ⟨mm, st, l⟩).e = 0) := Lib.hid (by rw [hR]; exact ⟨rfl, h1⟩)
      have hA := h1
      replace hX : DX W base m o ck ⟨mm, stepS st (bare 7), tellL st l (bare 7)⟩ := hX
      simp only at h1 ⊢
      rw [h1]
      clear h1 hR
      generalize stepS st (bare 7) = st1 at *
      generalize tellL st l (bare 7) = l1 at *
      clear hA
      obtain ⟨cv, g, hM⟩ := hX.mc
      obtain ⟨_, c1, _, c3, _⟩ := hM.cells
      obtain ⟨A, c, rfl, hr⟩ := hM.cols.sread
      have hcn : n < mm.cols.length := hnc
      obtain ⟨ad, rfl, hc⟩ := hr (Nat.lt_of_le_of_lt (Nat.zero_le _) hcn)
      have hck : W.cell? (ad.add n) = some (.string ⟨(mm.cols.getD n []).toArray⟩) := by
        rw [hc n hcn, List.getD_eq_getElem?_getD, List.getElem?_eq_getElem hcn]; rfl
      have c3' : W.cell? ⟨m, 3, none⟩ = some (.int .i64 (n : Int)) := by rw [← hn']; exact c3
      have hlt := hM.lt
      have hK := (hX.below (below_drew (Below.refl W.heap.size W))).tell ⟨8, ⟨(mm.cols.getD n []).toArray⟩, ⟨#[]⟩⟩ hg1 (show (8 : Int) ≠ 3 by decide) hsz hl1
      obtain ⟨x8, hx8⟩ : ∃ x8 : Ev, (⟨8, ⟨(mm.cols.getD n []).toArray⟩, ⟨#[]⟩⟩ : Ev) = x8 := ⟨_, rfl⟩
      have HX8 := Lib.hid hx8
      have HK := Lib.hid hK
      clear hK hx8 hc hr hM c3 hX
      generalize hkt : mm.cols.getD n [] = kt at *
      have HKT := Lib.hid hkt
      clear hkt
      go_wp2
      go_still_tail 12, (by kernel_rfl)
      change wpList _ _ _ _ _ W.drew
      obtain ⟨wd, hwd⟩ : ∃ wd, W.drew = wd := ⟨_, rfl⟩
      rw [hwd] at HK ⊢
      have HTd : Hid (Tch base dObj w wd) := Lib.hid (by rw [← hwd]; exact HT.out.drew)
      clear hwd c1 c3' hck hlt HT
      go_wp2_with fail
      refine HK.out.mono ?_
      rintro e w2 ⟨rfl, hX2, ht2⟩
      rw [HX8.out] at hX2 ⊢
      have HT2 := Lib.hid (HTd.out.trans (ht2.wide fun _ => d_t))
      clear ht2 HK HTd
      by_cases h2 : stepE st1 x8 = 0
      case neg =>
        have z1 : (stepE st1 x8 == 0) = false := by rw [beq_eq_false_iff_ne]; exact h2
        have z2 : (stepE st1 x8 != 0) = true := by simp [bne, z1]
        have HF : Hid (DPo w base m o ck (tellCellD ⟨mm, st, l⟩ t) (.returned (.int .i64 (stepE st1 x8))) w2) := Lib.hid (by
          have e2 : (keyD (rowD ⟨mm, st, l⟩).b) = tellD mm st1 l1 x8 := by rw [HR.out.1, ← HX8.out]; unfold keyD colD; simp only; rw [hn', HKT.out]
          unfold tellCellD
          rw [if_neg (by rw [HR.out.2]; exact fun h => h rfl), if_pos (by rw [e2]; exact h2), e2]
          exact ⟨rfl, hX2, HT2.out⟩)
        clear hX2 h2
        generalize stepE st1 x8 = E at *
        go_wp2
        go_ret
        exact HF.out
      case pos =>
        obtain ⟨cv, g, hM⟩ := hX2.mc
        have hM' : DmAt w2 base m mm cv g := hM
        obtain ⟨_, _, _, d3, _⟩ := hM'.cells
        have f3 := hM'.frz 3
        have hlt := hM'.lt
        rw [hn'] at d3
        obtain ⟨n1, hn1⟩ : ∃ n1 : Nat, (n : Int) + 1 = n1 := ⟨n + 1, rfl⟩
        have hnn : mm.n + 1 = n1 := by rw [hn']; omega
        have hM3 : DmAt (w2.setCell ⟨m, 3, none⟩ (.int .i64 (n1 : Int))) base m { mm with n := mm.n + 1 } cv g := hM'.set 3 (.int .i64 (n1 : Int)) (by rw [← hnn]; rfl) rfl rfl
        have ht3 := (hM'.touch 3 (.int .i64 (n1 : Int))).wide (q := dmObj) fun _ => dm_of
        have hX3 : DX (w2.setCell ⟨m, 3, none⟩ (.int .i64 (n1 : Int))) base m o ck ⟨{ mm with n := mm.n + 1 }, stepS st1 x8, tellL st1 l1 x8⟩ := hX2.dm ht3 hM3
        have hl2 : (tellL st1 l1 x8).length ≤ 1000000 := Nat.le_trans (tellL_len _ _ _) hl1'
        have HT3 := Lib.hid (HT2.out.trans (ht3.wide fun _ => d_m))
        have hT := hX3.tell ⟨4, ⟨t.toArray⟩, ⟨#[]⟩⟩ (good_step hg1 x8) (show (4 : Int) ≠ 3 by decide) htz hl2
        have HTt : Hid (∀ e w3, DTell (w2.setCell ⟨m, 3, none⟩ (.int .i64 (n1 : Int))) base m o ck ⟨{ mm with n := mm.n + 1 }, stepS st1 x8, tellL st1 l1 x8⟩ ⟨4, ⟨t.toArray⟩, ⟨#[]⟩⟩ e w3 → DPo w base m o ck (tellCellD ⟨mm, st, l⟩ t) e w3) := Lib.hid (fun e w3 hp => by
          have e2 : (keyD (rowD ⟨mm, st, l⟩).b) = tellD mm st1 l1 x8 := by rw [HR.out.1, ← HX8.out]; unfold keyD colD; simp only; rw [hn', HKT.out]
          unfold tellCellD
          rw [if_neg (by rw [HR.out.2]; exact fun h => h rfl), if_neg (by rw [e2]; exact fun h => h h2), e2]
          exact hp.p HT3.out)
        rw [h2]
        have HTT := Lib.hid hT
        clear hT hX3 hX2 hM hM' hM3 ht3 h2 hl2 hnn HT2 HT3 hg1 HR HX8
        go_wp2_with fail
        refine HTT.out.mono ?_
        intro e w3 hp
        have HF := Lib.hid (HTt.out e w3 hp)
        have he := hp.1
        clear hp HTt HTT
        subst he
        go_wp2
        go_ret
        exact HF.out
  · have z0 : ((n : Int) == 0) = false := by rw [beq_eq_false_iff_ne]; omega
    have hR : rowD ⟨mm, st, l⟩ = ⟨⟨mm, st, l⟩, 0⟩ := by unfold rowD; rw [if_neg (by rw [← hn'] at hn0; exact hn0)]
    have HR : Hid ((rowD ⟨mm, st, l⟩).b = ⟨mm, st, l⟩ ∧ (rowD ⟨mm, st, l⟩).e = 0) := Lib.hid (by rw [hR]; exact ⟨rfl, rfl⟩)
    have hA := hn0
    have hg1 := hg
    have hl1' : l.length + 1 ≤ 1000000 := by omega
    have hl1 : l.length ≤ 1000000 := by omega
    have HT : Hid (Tch base dObj w w) := Lib.hid (Tch.refl _ _ _)
    clear HT hA
    have key : ∀ W st1 l1, DX W base m o ck ⟨mm, st1, l1⟩ → Hid ((rowD ⟨mm, st, l⟩).b = ⟨mm, st1, l1⟩ ∧ (rowD ⟨mm, st, l⟩).e = 0) → Hid (Tch base dObj w W) → Good st1 → l1.length + 1 ≤ 1000000 → l1.length ≤ 1000000 → W.cell? ⟨m, 3, none⟩ = some (.int .i64 (n : Int)) → m < W.heap.size →
        Calls Tryz.prog 153 #[.pointer (some ⟨m, 0, none⟩), .string ⟨t.toArray⟩, .pointer (some ⟨o, 0, none⟩)] W (DPo w base m o ck (tellCellD ⟨mm, st, l⟩ t)) := by
      clear h hg hg1 hl1 hl1' hlt c3 HR hR
      intro W st1 l1 hX HR HT hg1 hl1' hl1 c3 hlt
      have hA := hn0
      clear hn0
      go_enter Tryz.func153, Tryz.ntmps153
      clear hA
      obtain ⟨cv, g, hM⟩ := hX.mc
      obtain ⟨_, c1, _, c3, _⟩ := hM.cells
      obtain ⟨A, c, rfl, hr⟩ := hM.cols.sread
      have hcn : n < mm.cols.length := hnc
      obtain ⟨ad, rfl, hc⟩ := hr (Nat.lt_of_le_of_lt (Nat.zero_le _) hcn)
      have hck : W.cell? (ad.add n) = some (.string ⟨(mm.cols.getD n []).toArray⟩) := by
        rw [hc n hcn, List.getD_eq_getElem?_getD, List.getElem?_eq_getElem hcn]; rfl
      have c3' : W.cell? ⟨m, 3, none⟩ = some (.int .i64 (n : Int)) := by rw [← hn']; exact c3
      have hlt := hM.lt
      have hK := (hX.below (below_drew (Below.refl W.heap.size W))).tell ⟨8, ⟨(mm.cols.getD n []).toArray⟩, ⟨#[]⟩⟩ hg1 (show (8 : Int) ≠ 3 by decide) hsz hl1
      obtain ⟨x8, hx8⟩ : ∃ x8 : Ev, (⟨8, ⟨(mm.cols.getD n []).toArray⟩, ⟨#[]⟩⟩ : Ev) = x8 := ⟨_, rfl⟩
      have HX8 := Lib.hid hx8
      have HK := Lib.hid hK
      clear hK hx8 hc hr hM c3 hX
      generalize hkt : mm.cols.getD n [] = kt at *
      have HKT := Lib.hid hkt
      clear hkt
      go_wp2
      go_still_tail 12, (by kernel_rfl)
      change wpList _ _ _ _ _ W.drew
      obtain ⟨wd, hwd⟩ : ∃ wd, W.drew = wd := ⟨_, rfl⟩
      rw [hwd] at HK ⊢
      have HTd : Hid (Tch base dObj w wd) := Lib.hid (by rw [← hwd]; exact HT.out.drew)
      clear hwd c1 c3' hck hlt HT
      go_wp2_with fail
      refine HK.out.mono ?_
      rintro e w2 ⟨rfl, hX2, ht2⟩
      rw [HX8.out] at hX2 ⊢
      have HT2 := Lib.hid (HTd.out.trans (ht2.wide fun _ => d_t))
      clear ht2 HK HTd
      by_cases h2 : stepE st1 x8 = 0
      case neg =>
        have z1 : (stepE st1 x8 == 0) = false := by rw [beq_eq_false_iff_ne]; exact h2
        have z2 : (stepE st1 x8 != 0) = true := by simp [bne, z1]
        have HF : Hid (DPo w base m o ck (tellCellD ⟨mm, st, l⟩ t) (.returned (.int .i64 (stepE st1 x8))) w2) := Lib.hid (by
          have e2 : (keyD (rowD ⟨mm, st, l⟩).b) = tellD mm st1 l1 x8 := by rw [HR.out.1, ← HX8.out]; unfold keyD colD; simp only; rw [hn', HKT.out]
          unfold tellCellD
          rw [if_neg (by rw [HR.out.2]; exact fun h => h rfl), if_pos (by rw [e2]; exact h2), e2]
          exact ⟨rfl, hX2, HT2.out⟩)
        clear hX2 h2
        generalize stepE st1 x8 = E at *
        go_wp2
        go_ret
        exact HF.out
      case pos =>
        obtain ⟨cv, g, hM⟩ := hX2.mc
        have hM' : DmAt w2 base m mm cv g := hM
        obtain ⟨_, _, _, d3, _⟩ := hM'.cells
        have f3 := hM'.frz 3
        have hlt := hM'.lt
        rw [hn'] at d3
        obtain ⟨n1, hn1⟩ : ∃ n1 : Nat, (n : Int) + 1 = n1 := ⟨n + 1, rfl⟩
        have hnn : mm.n + 1 = n1 := by rw [hn']; omega
        have hM3 : DmAt (w2.setCell ⟨m, 3, none⟩ (.int .i64 (n1 : Int))) base m { mm with n := mm.n + 1 } cv g := hM'.set 3 (.int .i64 (n1 : Int)) (by rw [← hnn]; rfl) rfl rfl
        have ht3 := (hM'.touch 3 (.int .i64 (n1 : Int))).wide (q := dmObj) fun _ => dm_of
        have hX3 : DX (w2.setCell ⟨m, 3, none⟩ (.int .i64 (n1 : Int))) base m o ck ⟨{ mm with n := mm.n + 1 }, stepS st1 x8, tellL st1 l1 x8⟩ := hX2.dm ht3 hM3
        have hl2 : (tellL st1 l1 x8).length ≤ 1000000 := Nat.le_trans (tellL_len _ _ _) hl1'
        have HT3 := Lib.hid (HT2.out.trans (ht3.wide fun _ => d_m))
        have hT := hX3.tell ⟨4, ⟨t.toArray⟩, ⟨#[]⟩⟩ (good_step hg1 x8) (show (4 : Int) ≠ 3 by decide) htz hl2
        have HTt : Hid (∀ e w3, DTell (w2.setCell ⟨m, 3, none⟩ (.int .i64 (n1 : Int))) base m o ck ⟨{ mm with n := mm.n + 1 }, stepS st1 x8, tellL st1 l1 x8⟩ ⟨4, ⟨t.toArray⟩, ⟨#[]⟩⟩ e w3 → DPo w base m o ck (tellCellD ⟨mm, st, l⟩ t) e w3) := Lib.hid (fun e w3 hp => by
          have e2 : (keyD (rowD ⟨mm, st, l⟩).b) = tellD mm st1 l1 x8 := by rw [HR.out.1, ← HX8.out]; unfold keyD colD; simp only; rw [hn', HKT.out]
          unfold tellCellD
          rw [if_neg (by rw [HR.out.2]; exact fun h => h rfl), if_neg (by rw [e2]; exact fun h => h h2), e2]
          exact hp.p HT3.out)
        rw [h2]
        have HTT := Lib.hid hT
        clear hT hX3 hX2 hM hM' hM3 ht3 h2 hl2 hnn HT2 HT3 hg1 HR HX8
        go_wp2_with fail
        refine HTT.out.mono ?_
        intro e w3 hp
        have HF := Lib.hid (HTt.out e w3 hp)
        have he := hp.1
        clear hp HTt HTT
        subst he
        go_wp2
        go_ret
        exact HF.out
    exact key w st l h HR (Lib.hid (Tch.refl _ _ _)) hg1 hl1' hl1 c3 hlt
end Go.Proofs.YtalkjgijmceifaaGreatDoor
