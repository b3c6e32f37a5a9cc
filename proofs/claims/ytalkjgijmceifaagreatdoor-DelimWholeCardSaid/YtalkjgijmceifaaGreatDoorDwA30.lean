/-
  delim: endCell.
-/
import Derived.Test.YtalkjgijmceifaaGreatDoorDwA29
namespace Go.Proofs.YtalkjgijmceifaaGreatDoor
open Go.RowKit Go.Maps
set_option maxRecDepth 100000
set_option linter.unusedSimpArgs false
set_option linter.unusedVariables false
set_option linter.unusedSectionVars false
variable [Tab] [Fo]

/-! What a cell's end leaves: the columns stand; few events more. -/
theorem rowD_facts {s : Ds} (hg : Good s.st) : Good (rowD s).b.st ∧ (rowD s).b.l.length ≤ s.l.length + 1 ∧ (rowD s).b.m = s.m := by
  unfold rowD
  split
  · exact ⟨good_step hg _, tellL_len _ _ _, rfl⟩
  · exact ⟨hg, Nat.le_succ _, rfl⟩
theorem tellCellD_facts {s : Ds} (t : List UInt8) (hg : Good s.st) : Good (tellCellD s t).b.st ∧ (tellCellD s t).b.l.length ≤ s.l.length + 3 ∧ (tellCellD s t).b.m.cols = s.m.cols ∧ (tellCellD s t).b.m.c = s.m.c ∧ (tellCellD s t).b.m.hd = s.m.hd ∧ (tellCellD s t).b.m.a = s.m.a ∧ ((tellCellD s t).e = 0 → (tellCellD s t).b.m.n = s.m.n + 1) := by
  obtain ⟨h1, h2, h3⟩ := rowD_facts hg
  unfold tellCellD
  split
  · rename_i he; rw [h3]; exact ⟨h1, by omega, rfl, rfl, rfl, rfl, fun e => absurd e he⟩
  · have k2 := tellL_len (rowD s).b.st (rowD s).b.l ⟨8, ⟨(colD (rowD s).b).toArray⟩, ⟨#[]⟩⟩
    have k1 := good_step h1 ⟨8, ⟨(colD (rowD s).b).toArray⟩, ⟨#[]⟩⟩
    have k3 : (keyD (rowD s).b).b.m = s.m := h3
    split
    · rename_i he
      rw [k3]
      exact ⟨k1, by show (tellL _ _ _).length ≤ _; omega, rfl, rfl, rfl, rfl, fun e => absurd e he⟩
    · have j2 := tellL_len (keyD (rowD s).b).b.st (keyD (rowD s).b).b.l ⟨4, ⟨t.toArray⟩, ⟨#[]⟩⟩
      have j3 : (textD (keyD (rowD s).b).b t).b.m = { s.m with n := s.m.n + 1 } := by show { (rowD s).b.m with n := (rowD s).b.m.n + 1 } = _; rw [h3]
      rw [j3]
      refine ⟨good_step k1 _, ?_, rfl, rfl, rfl, rfl, fun _ => rfl⟩
      show (tellL _ _ _).length ≤ _
      have : (keyD (rowD s).b).b.l.length ≤ s.l.length + 2 := by show (tellL _ _ _).length ≤ _; omega
      omega

set_option maxHeartbeats 8000000 in
theorem dendcell_any (w : World) (base m o ck : Nat) (s : Ds) (last : Bool) (h : DX w base m o ck s) (hnc : s.m.hd = true → s.m.n < s.m.cols.length) (hn8 : s.m.n ≤ 1000) (hcz : ∀ c ∈ s.m.cols, c.length ≤ 48) (hc8 : s.m.cols.length ≤ 100) (hcl : s.m.c.length ≤ 48) (hg : Good s.st) (hl : s.l.length ≤ 900000) :
    Calls Tryz.prog 150 #[.pointer (some ⟨m, 0, none⟩), .bool last, .pointer (some ⟨o, 0, none⟩)] w (DPo w base m o ck (endCellD s last)) := by
  obtain ⟨mm, st, l⟩ := s
  simp only at hnc hn8 hcz hg hl hc8 hcl
  obtain ⟨cv, g, hM0⟩ := h.mc
  have hM : DmAt w base m mm cv g := hM0
  obtain ⟨_, _, _, _, c4⟩ := hM.cells
  have f4 := hM.frz 4
  have hlt := hM.lt
  have ho : ORow w base 5 (.slice (some ⟨g, 0, none⟩) mm.c.length 48) (mm.c.map bV) := by unfold ORow; rw [List.length_map]; exact hM.cell
  have hstr := Nm.put_str _ ho
  have hM1 := hM.empty
  have ht1 := (hM.touch 4 (.slice (some ⟨g, 0, none⟩) 0 48)).wide (q := dmObj) fun _ => dm_of
  have hX1 : DX (w.setCell ⟨m, 4, none⟩ (.slice (some ⟨g, 0, none⟩) 0 48)) base m o ck ⟨{ mm with c := [] }, st, l⟩ := h.dm ht1 hM1
  obtain ⟨W, hW⟩ : ∃ W, w.setCell ⟨m, 4, none⟩ (.slice (some ⟨g, 0, none⟩) 0 48) = W := ⟨_, rfl⟩
  rw [hW] at hM1 ht1 hX1
  have HT1 := Lib.hid (ht1.wide fun _ => d_m)
  obtain ⟨_, _, d2, _, _⟩ := hM1.cells
  have f2 := hM1.frz 2
  have hl1 := hM1.lt
  obtain ⟨k, hk⟩ : ∃ k, mm.c.length = k := ⟨_, rfl⟩
  have hk48 : k ≤ 48 := by omega
  rw [hk] at c4 ho hstr
  unfold endCellD
  cases hh : mm.hd with
  | false =>
    rw [if_pos rfl]
    rw [show ({ mm with c := [] } : Dm).hd = false from hh] at d2
    have hM2 : DmAt (W.setCell ⟨m, 2, none⟩ (.bool last)) base m { mm with c := [], hd := last } cv g := hM1.set 2 (.bool last) rfl rfl rfl
    have ht2 := (hM1.touch 2 (.bool last)).wide (q := dmObj) fun _ => dm_of
    have hX2 : DX (W.setCell ⟨m, 2, none⟩ (.bool last)) base m o ck ⟨{ mm with c := [], hd := last }, st, l⟩ := hX1.dm ht2 hM2
    have HC := Lib.hid (daddcol_any _ base m o ck _ mm.c last hX2 hc8)
    have HT2 := Lib.hid (HT1.out.trans (ht2.wide fun _ => d_m))
    obtain ⟨r, hr⟩ : ∃ r, addColD ⟨{ mm with c := [], hd := last }, st, l⟩ mm.c last = r := ⟨_, rfl⟩
    rw [hr] at HC ⊢
    clear h hM0 hM ho hM1 ht1 hX1 hM2 ht2 hX2 HT1 hcz hg hnc hn8 hcl hr hk
    go_enter Tryz.func150, Tryz.ntmps150
    go_wp2_with fail
    refine HC.out.mono ?_
    intro e w3 hp
    have HF := Lib.hid (hp.pre HT2.out)
    have he := hp.1
    clear hp HC HT2
    subst he
    go_wp2
    go_ret
    exact HF.out
  | true =>
    rw [if_neg (by decide)]
    rw [show ({ mm with c := [] } : Dm).hd = true from hh] at d2
    have HC := Lib.hid (dtellcell_any W base m o ck _ mm.c hX1 (hnc hh) hn8 hcz (Nat.le_trans hcl (by decide)) hg hl)
    obtain ⟨q1, q2, q3, -⟩ := tellCellD_facts (s := ⟨{ mm with c := [] }, st, l⟩) mm.c hg
    have q2' : (tellCellD ⟨{ mm with c := [] }, st, l⟩ mm.c).b.l.length ≤ 1000000 := by have : (⟨{ mm with c := [] }, st, l⟩ : Ds).l.length ≤ 900000 := hl; omega
    unfold emptyD
    simp only
    have q3' : (tellCellD ⟨{ mm with c := [] }, st, l⟩ mm.c).b.m.cols.length ≤ 100 := by rw [q3]; exact hc8
    clear q2 q3
    generalize tellCellD ⟨{ mm with c := [] }, st, l⟩ mm.c = r at *
    obtain ⟨⟨rm, rst, rl⟩, re⟩ := r
    simp only at q1 q2' q3' ⊢
    obtain ⟨RR, hRR⟩ : ∃ RR, (if re ≠ 0 then (⟨⟨rm, rst, rl⟩, re⟩ : Dr) else countD ⟨rm, rst, rl⟩ last) = RR := ⟨_, rfl⟩
    rw [hRR]
    clear h hM0 hM ho hM1 ht1 hX1 hcz hg hnc hn8 hcl hk
    go_enter Tryz.func150, Tryz.ntmps150
    go_wp2_with fail
    refine HC.out.mono ?_
    rintro e w3 ⟨rfl, hX3, ht3⟩
    have HT3 := Lib.hid (HT1.out.trans ht3)
    clear ht3 HC HT1 d2 f2 hl1 c4 f4 hlt hstr
    by_cases he : re = 0
    case neg =>
      have z1 : (re == 0) = false := by rw [beq_eq_false_iff_ne]; exact he
      have z2 : (re != 0) = true := by simp [bne, z1]
      rw [if_pos he] at hRR
      subst hRR
      have HF : Hid (DPo w base m o ck ⟨⟨rm, rst, rl⟩, re⟩ (.returned (.int .i64 re)) w3) := Lib.hid ⟨rfl, hX3, HT3.out⟩
      clear hX3 he
      simp only at z1 z2 ⊢
      go_wp2
      go_ret
      exact HF.out
    case pos =>
      subst he
      rw [if_neg (fun h => h rfl)] at hRR
      have hX4 := hX3.below (below_drew (Below.refl w3.heap.size w3))
      obtain ⟨cv3, g3, hM30⟩ := hX3.mc
      have hM3 : DmAt w3 base m rm cv3 g3 := hM30
      obtain ⟨_, b1, _, b3, _⟩ := hM3.cells
      obtain ⟨A, c, rfl, _⟩ := hM3.cols.sread
      have hlt3 := hM3.lt
      have HT4 := Lib.hid HT3.out.drew
      unfold countD at hRR
      simp only at hRR
      obtain ⟨q, hq⟩ : ∃ q, decide (rm.n = rm.cols.length) = q := ⟨_, rfl⟩
      rw [hq] at hRR
      have zq : ((rm.n : Int) == (rm.cols.length : Int)) = q := by
        rw [← hq]
        by_cases hx : rm.n = rm.cols.length
        · rw [decide_eq_true hx, hx]; simp
        · rw [decide_eq_false hx, beq_eq_false_iff_ne]; omega
      obtain ⟨cn, hcn⟩ : ∃ cn, rm.cols.length = cn := ⟨_, rfl⟩
      rw [hcn] at b1 zq
      by_cases hlq : last = q
      case neg =>
        rw [if_pos hlq] at hRR
        subst hRR
        have HF : Hid (DPo w base m o ck ⟨⟨rm, rst, rl⟩, 17⟩ (.returned (.int .i64 17)) w3.drew) := Lib.hid ⟨rfl, hX4, HT4.out⟩
        clear hX3 hX4 hM30 hM3 HT3 hq q1 q2' q3' hcn
        cases last <;> cases q <;> first | exact absurd rfl hlq | skip
        all_goals
          clear hlq
          go_wp2
          go_region
          go_wp2
          go_ret
          exact HF.out
      case pos =>
        rw [if_neg (fun h => h hlq)] at hRR
        subst hlq
        cases last with
        | false =>
          rw [if_pos rfl] at hRR
          subst hRR
          have HF : Hid (DPo w base m o ck ⟨⟨rm, rst, rl⟩, 0⟩ (.returned (.int .i64 0)) w3.drew) := Lib.hid ⟨rfl, hX4, HT4.out⟩
          clear hX3 hX4 hM30 hM3 HT3 hq q1 q2' q3' hcn
          go_wp2
          go_region
          go_wp2
          go_ret
          exact HF.out
        | true =>
          rw [if_neg (by decide)] at hRR
          subst hRR
          have hM4 := hM3.drewN 1
          have hM5 : DmAt ((w3.drewN 1).setCell ⟨m, 3, none⟩ (.int .i64 0)) base m { rm with n := 0 } (.slice A rm.cols.length c) g3 := hM4.set 3 (.int .i64 0) rfl rfl rfl
          have ht5 := (hM4.touch 3 (.int .i64 0)).wide (q := dmObj) fun _ => dm_of
          have hX5 : DX ((w3.drewN 1).setCell ⟨m, 3, none⟩ (.int .i64 0)) base m o ck ⟨{ rm with n := 0 }, rst, rl⟩ := hX4.dm ht5 hM5
          have HT := Lib.hid (hX5.tell (bare 9) q1 (by decide) (bare_size 9) q2')
          have HT5 := Lib.hid (HT4.out.trans (ht5.wide fun _ => d_m))
          have e3 : w3.drew.cell? ⟨m, 3, none⟩ = some (.int .i64 (rm.n : Int)) := b3
          have g3 : w3.drew.frozen? ⟨m, 3, none⟩ = false := hM4.frz 3
          have l3 : m < w3.drew.heap.size := hlt3
          clear hX3 hX4 hM30 hM3 HT3 hq q1 q2' q3' hcn hM4 hM5 ht5 hX5 HT4
          go_wp2
          go_region
          go_wp2_with fail
          refine HT.out.mono ?_
          intro e w5 hp
          have HF := Lib.hid (hp.p HT5.out)
          have he := hp.1
          clear hp HT HT5
          subst he
          go_wp2
          go_ret
          exact HF.out
end Go.Proofs.YtalkjgijmceifaaGreatDoor
