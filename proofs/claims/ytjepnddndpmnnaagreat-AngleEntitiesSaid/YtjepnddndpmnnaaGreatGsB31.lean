/-
  angle: endAttrs; what it needs.
-/
import Derived.Test.YtjepnddndpmnnaaGreatGsB30
namespace Go.Proofs.YtjepnddndpmnnaaGreat
open Go.RowKit Go.Maps
set_option maxRecDepth 100000
set_option linter.unusedSimpArgs false
set_option linter.unusedVariables false
set_option linter.unusedSectionVars false
set_option linter.unusedSectionVars false
variable [Tab] [Fo]

theorem SpsOk.open_ {st : Ns.St} (h : SpsOk st) : SpsOk ([] :: st) := fun m hm x hx => by
  rcases List.mem_cons.1 hm with rfl | hm
  · cases hx
  · exact h m hm x hx
theorem SpsOk.bind {st : Ns.St} (h : SpsOk st) (p t : List UInt8) (ht : t.length ≤ 1000) : SpsOk (Ns.bindS p t st) := by
  cases st with
  | nil => exact h
  | cons m r =>
    simp only [Ns.bindS]
    split
    · intro q hq x hx
      rcases List.mem_cons.1 hq with rfl | hq
      · rcases List.mem_cons.1 hx with rfl | hx
        · exact ht
        · exact h m List.mem_cons_self x hx
      · exact h q (List.mem_cons_of_mem _ hq) x hx
    · exact h
theorem SpsOk.close {st : Ns.St} (h : SpsOk st) : SpsOk (Ns.closeS st) := by
  cases st with
  | nil => exact h
  | cons m r => exact fun q hq => h q (List.mem_cons_of_mem _ hq)
theorem SpsOk.bindAll : ∀ {l : List (Na × List UInt8)} {st : Ns.St}, SpsOk st → AtOk l → SpsOk (bindAllA l st).st
  | [], st, h, _ => h
  | a :: l, st, h, hl => by
    have ha := hl a List.mem_cons_self
    have hr : AtOk l := fun b hb => hl b (List.mem_cons_of_mem _ hb)
    rw [bindAllA]
    cases bindsA a.1 with
    | none => exact SpsOk.bindAll h hr
    | some p =>
      simp only
      split
      · exact SpsOk.bindAll (h.bind p a.2 ha.2.2) hr
      · exact h.bind p a.2 ha.2.2
/-- What holds ahead of the end of a tag's attributes. -/
structure OPre (s : As) : Prop where
  al : s.m.ats.length ≤ 1000
  aok : AtOk s.m.ats
  e1 : s.m.el.p.length ≤ 1000
  e2 : s.m.el.l.length ≤ 1000
  good : Good s.st
  ln : s.l.length ≤ 900000
  sp : SpsOk s.m.sc
  op : s.m.op.length ≤ 1000000
  sl : s.m.sc.length ≤ 1000000
section
variable {w w' : World} {base m o ck e mb g : Nat} {s : As} {M M' : Ag} {av ov : Value}

set_option maxHeartbeats 8000000 in
theorem aendattrs_sl (b : UInt8) (h : AX w base m o ck e mb g s) (hp : OPre s) (hb : b.toNat = 47) :
    Calls Tryz.prog 131 #[.pointer (some ⟨m, 0, none⟩), .int .u8 (b.toNat : Int), .pointer (some ⟨o, 0, none⟩)] w (APo w base m o ck e mb g (openA (setAt s 14))) := by
  have c0 := h.at0
  have f0 := h.frz 0
  have hlt := h.lt
  have hop := hp.op
  have z : ((b.toNat : Int) == 47) = true := by rw [beq_iff_eq]; omega
  have h1 := h.setAt 14
  have HT : Hid (Tch base axO w (w.setCell ⟨m, 0, none⟩ (.int .i64 14)).drew) := Lib.hid h1.2.drew
  have HD : Hid (AX (w.setCell ⟨m, 0, none⟩ (.int .i64 14)).drew base m o ck e mb g (setAt s 14)) := Lib.hid h1.1.drew
  obtain ⟨av, ov, hM⟩ := h1.1.drew.mc
  obtain ⟨A, cap, rfl, hcap⟩ := own_shape hM.opn
  have d18 : (w.setCell ⟨m, 0, none⟩ (.int .i64 14)).drew.cell? ⟨m, 18, none⟩ = some (.slice A s.m.op.length cap) := hM.cells2.2.2.2.2.2.2.2.1
  have d11 : (w.setCell ⟨m, 0, none⟩ (.int .i64 14)).drew.cell? ⟨m, 11, none⟩ = some (.string ⟨s.m.el.p.toArray⟩) := hM.cells2.1
  have d12 : (w.setCell ⟨m, 0, none⟩ (.int .i64 14)).drew.cell? ⟨m, 12, none⟩ = some (.string ⟨s.m.el.l.toArray⟩) := hM.cells2.2.1
  have HM := Lib.hid hM
  have HP := Lib.hid hp
  clear h h1 hp hM hb
  go_enter Tryz.func131, Tryz.ntmps131
  go_wp2
  refine region_g [13] (S := (fun W => W.cell? ⟨m, 18, none⟩ = some (.slice A s.m.op.length cap) ∧ W.cell? ⟨m, 11, none⟩ = some (.string ⟨s.m.el.p.toArray⟩) ∧ W.cell? ⟨m, 12, none⟩ = some (.string ⟨s.m.el.l.toArray⟩))) (by kernel_rfl) ⟨d18, d11, d12⟩ (fun hH => ?_)
  refine g_take (i := 0) (v := .pointer (some ⟨m, 0, none⟩)) (by rfl) (by kernel_rfl) (by kernel_rfl) (by kernel_rfl) (by kernel_rfl) (fun _ _ _ h => (by cases h.1)) (Or.inl ⟨by kernel_rfl, fun W hS => (by obtain ⟨s0, s1, s2⟩ := hS; go_simp)⟩) hH ?_
  simp only [Act.put, List.setIfInBounds_toArray, List.set_cons_zero, List.set_cons_succ]
  refine g_take (i := 1) (v := .pointer (some ⟨m, 0, none⟩)) (by rfl) (by kernel_rfl) (by kernel_rfl) (by kernel_rfl) (by kernel_rfl) (fun _ _ _ h => (by cases h.1)) (Or.inl ⟨by kernel_rfl, fun W hS => (by obtain ⟨s0, s1, s2⟩ := hS; go_simp)⟩) hH ?_
  simp only [Act.put, List.setIfInBounds_toArray, List.set_cons_zero, List.set_cons_succ]
  refine g_take (i := 2) (v := .pointer (some ⟨m, 0, none⟩)) (by rfl) (by kernel_rfl) (by kernel_rfl) (by kernel_rfl) (by kernel_rfl) (fun _ _ _ h => (by cases h.1)) (Or.inl ⟨by kernel_rfl, fun W hS => (by obtain ⟨s0, s1, s2⟩ := hS; go_simp)⟩) hH ?_
  simp only [Act.put, List.setIfInBounds_toArray, List.set_cons_zero, List.set_cons_succ]
  refine g_take (i := 3) (v := .pointer (some ⟨m, 18, none⟩)) (by rfl) (by kernel_rfl) (by kernel_rfl) (by kernel_rfl) (by kernel_rfl) (fun _ _ _ h => (by cases h.1)) (Or.inl ⟨by kernel_rfl, fun W hS => (by obtain ⟨s0, s1, s2⟩ := hS; go_simp)⟩) hH ?_
  simp only [Act.put, List.setIfInBounds_toArray, List.set_cons_zero, List.set_cons_succ]
  refine g_take (i := 4) (v := .slice A s.m.op.length cap) (by rfl) (by kernel_rfl) (by kernel_rfl) (by kernel_rfl) (by kernel_rfl) (fun _ _ _ h => (by cases h.1)) (Or.inl ⟨by kernel_rfl, fun W hS => (by obtain ⟨s0, s1, s2⟩ := hS; go_simp)⟩) hH ?_
  simp only [Act.put, List.setIfInBounds_toArray, List.set_cons_zero, List.set_cons_succ]
  refine g_take (i := 5) (v := .pointer (some ⟨m, 0, none⟩)) (by rfl) (by kernel_rfl) (by kernel_rfl) (by kernel_rfl) (by kernel_rfl) (fun _ _ _ h => (by cases h.1)) (Or.inl ⟨by kernel_rfl, fun W hS => (by obtain ⟨s0, s1, s2⟩ := hS; go_simp)⟩) hH ?_
  simp only [Act.put, List.setIfInBounds_toArray, List.set_cons_zero, List.set_cons_succ]
  refine g_take (i := 6) (v := .pointer (some ⟨m, 0, none⟩)) (by rfl) (by kernel_rfl) (by kernel_rfl) (by kernel_rfl) (by kernel_rfl) (fun _ _ _ h => (by cases h.1)) (Or.inl ⟨by kernel_rfl, fun W hS => (by obtain ⟨s0, s1, s2⟩ := hS; go_simp)⟩) hH ?_
  simp only [Act.put, List.setIfInBounds_toArray, List.set_cons_zero, List.set_cons_succ]
  refine g_take (i := 7) (v := .pointer (some ⟨m, 11, none⟩)) (by rfl) (by kernel_rfl) (by kernel_rfl) (by kernel_rfl) (by kernel_rfl) (fun _ _ _ h => (by cases h.1)) (Or.inl ⟨by kernel_rfl, fun W hS => (by obtain ⟨s0, s1, s2⟩ := hS; go_simp)⟩) hH ?_
  simp only [Act.put, List.setIfInBounds_toArray, List.set_cons_zero, List.set_cons_succ]
  refine g_take (i := 8) (v := .agg #[.string ⟨s.m.el.p.toArray⟩, .string ⟨s.m.el.l.toArray⟩]) (by rfl) (by kernel_rfl) (by kernel_rfl) (by kernel_rfl) (by kernel_rfl) (fun _ _ _ h => (by cases h.1)) (Or.inl ⟨by kernel_rfl, fun W hS => (by obtain ⟨s0, s1, s2⟩ := hS; go_simp)⟩) hH ?_
  simp only [Act.put, List.setIfInBounds_toArray, List.set_cons_zero, List.set_cons_succ]
  refine g_one (i := 9) (by kernel_rfl) (by rfl) (fun K hK => ?_)
  go_simp
  have hMa := HM.out.below ((Below.refl _ _).alloc (Nat.le_refl _) (.cells #[sv s.m.el.p, sv s.m.el.l] 97))
  have hTa : Tch base axO w _ := HT.out.alloc (.cells #[sv s.m.el.p, sv s.m.el.l] 97)
  refine hK.out _ _ (fun _ => ⟨hMa.cells2.2.2.2.2.2.2.2.1, hMa.cells2.1, hMa.cells2.2.1⟩) (fun _ => ?_)
  clear hK K hH
  refine g_one (i := 10) (by kernel_rfl) (by rfl) (fun K hK => ?_)
  refine step_appG (by rfl) (.tmp 23) (.tmp 28) 99 (by rfl) base 97 (.agg #[.string ⟨#[]⟩, .string ⟨#[]⟩]) 2 32 Tryz.underlying99 Tryz.infoNa (by rfl) (by decide) (.slice A s.m.op.length cap) s.m.op.length (naCells s.m.op) [sv s.m.el.p, sv s.m.el.l] (by rfl) (by exact hMa.opn) (by simp [Value.oneCell', sv]) ⟨(w.setCell ⟨m, 0, none⟩ (.int .i64 14)).drew.heap.size, 0, none⟩ 1 1 (by rfl) (by go_simp) (by exact cells2S _ _ _ _) (by simp [maxLen]; omega) (by omega) hMa.hb ?_
  intro v7 w7 hown7 hg7 hnb7
  have hl8 : (s.m.op ++ [s.m.el]).length = s.m.op.length + 1 := by simp
  have hown8 : w7.ownsRow base 97 2 v7 (s.m.op ++ [s.m.el]).length (naCells (s.m.op ++ [s.m.el])) := by
    rw [hl8, naCells_snoc]; exact hown7
  obtain ⟨p1, p2, pb⟩ := HM.out.pushOp (M' := { s.m with a := 14, op := s.m.op ++ [s.m.el] }) hown8 hg7 hnb7 (fun _ => rfl) rfl
  have hX := HD.out.tchO p2 ⟨_, _, p1⟩ rfl rfl rfl
  have HX : Hid (AX (w7.setCell ⟨m, 18, none⟩ v7) base m o ck e mb g { s with m := { s.m with a := 14, op := s.m.op ++ [s.m.el] } }) := Lib.hid hX
  have HT7 := Lib.hid (HT.out.trans (p2.wide fun _ h => (.inr h : axO _)))
  obtain ⟨A7, cap7, rfl, _⟩ := own_shape hown8
  rw [hl8] at HX HT7 ⊢
  have hs7 : w7.cell? ⟨m, 18, none⟩ = some (.slice A s.m.op.length cap) ∧ w7.cell? ⟨m, 11, none⟩ = some (.string ⟨s.m.el.p.toArray⟩) ∧ w7.cell? ⟨m, 12, none⟩ = some (.string ⟨s.m.el.l.toArray⟩) := ⟨pb.cell 18, pb.cell 11, pb.cell 12⟩
  have p4 := pb.frozen 18
  have p5 := pb.lt
  have p3 : w7.cell? ⟨m, 18, none⟩ = some (.slice A s.m.op.length cap) := pb.cell 18
  clear hown7 hown8 hg7 hnb7 hMa hTa hX p1 p2 pb HT HD HM d18 d11 d12
  refine hK.out _ _ (fun _ => hs7) (fun _ => ?_)
  clear hK K
  try simp only [Act.put, List.setIfInBounds_toArray, List.set_cons_zero, List.set_cons_succ]
  refine g_one (i := 11) (by kernel_rfl) (by rfl) (fun K hK => ?_)
  go_simp
  refine hK.out _ _ (fun _ => hs7) (fun _ => ?_)
  clear hK K
  refine g_one (i := 12) (by kernel_rfl) (by rfl) (fun K hK => ?_)
  go_simp
  refine hK.out _ _ (fun _ => hs7) (fun _ => ?_)
  clear hK K
  refine g_one (i := 13) (by kernel_rfl) (by rfl) (fun K hK => ?_)
  go_simp
  refine hK.out _ _ (fun h => absurd (List.mem_singleton.2 rfl) h) (fun _ => ?_)
  clear hK K
  refine g_done (by kernel_rfl) ⟨by first | rfl | trivial, ?_⟩ _
  obtain ⟨W8, hW8⟩ : ∃ W8, w7.setCell ⟨m, 18, none⟩ (.slice A7 (s.m.op.length + 1) cap7) = W8 := ⟨_, rfl⟩
  rw [hW8] at HX HT7 ⊢
  clear hW8 p3 p4 p5 hs7
  have c19 : W8.cell? ⟨m, 19, none⟩ = some (.pointer (some ⟨g, 0, none⟩)) := by obtain ⟨_, _, q⟩ := HX.out.mc; exact q.cells2.2.2.2.2.2.2.2.2
  have hl8' := HX.out.lt
  have HO := Lib.hid (HX.out.openS HP.out.sl)
  go_wp2_with fail
  refine HO.out.mono ?_
  rintro E w2 ⟨rfl, h2, t2⟩
  change AX w2 base m o ck e mb g { s with m := { s.m with a := 14, op := s.m.op ++ [s.m.el], sc := [] :: s.m.sc } } at h2
  have HB := Lib.hid (abind_any h2 HP.out.al HP.out.aok)
  have HT2 := Lib.hid (HT7.out.trans t2)
  clear h2 t2 c19 hl8' HO HX
  obtain ⟨⟨Bst, Be⟩, hBr⟩ : ∃ r, bindAllA s.m.ats ([] :: s.m.sc) = r := ⟨_, rfl⟩
  have HBr := Lib.hid hBr
  clear hBr
  go_wp2_with fail
  refine HB.out.mono ?_
  intro E w3 hq
  obtain ⟨hE, h3, t3⟩ := hq
  change E = .returned (.int .i64 (bindAllA s.m.ats ([] :: s.m.sc)).e) at hE
  change AX w3 base m o ck e mb g { s with m := { s.m with a := 14, op := s.m.op ++ [s.m.el], sc := (bindAllA s.m.ats ([] :: s.m.sc)).st } } at h3
  rw [HBr.out] at hE h3
  subst hE
  have HT3 := Lib.hid (HT2.out.trans (t3.wide fun _ h => (.inl h : axO _)))
  have H3 := Lib.hid h3
  clear h3 t3
  by_cases hBe : Be ≠ 0
  · have zB : (Be != 0) = true := by rw [bne_iff_ne]; exact hBe
    have HF : Hid (APo w base m o ck e mb g (openA (setAt s 14)) (.returned (.int .i64 Be)) w3) := Lib.hid (by
      unfold openA
      rw [show bindAllA (setAt s 14).m.ats ([] :: (setAt s 14).m.sc) = ⟨Bst, Be⟩ from HBr.out, if_pos hBe]
      exact ⟨rfl, H3.out, HT3.out⟩)
    clear hBe
    go_wp2
    go_ret
    exact HF.out
  · have hB0 : Be = 0 := by simpa using hBe
    subst hB0
    have hsp : SpsOk Bst := by have := HP.out.sp.open_.bindAll HP.out.aok; rw [HBr.out] at this; exact this
    have HTl := Lib.hid (atellelem_any H3.out HP.out.al HP.out.aok HP.out.e1 HP.out.e2 HP.out.good HP.out.ln hsp)
    have HQ := Lib.hid (show openA (setAt s 14) = tellElemA { s with m := { s.m with a := 14, op := s.m.op ++ [s.m.el], sc := Bst } } by
      unfold openA
      rw [show bindAllA (setAt s 14).m.ats ([] :: (setAt s 14).m.sc) = ⟨Bst, 0⟩ from HBr.out, if_neg (fun hc => hc rfl)]
      rfl)
    obtain ⟨R, hR⟩ : ∃ R, tellElemA { s with m := { s.m with a := 14, op := s.m.op ++ [s.m.el], sc := Bst } } = R := ⟨_, rfl⟩
    rw [hR] at HTl
    have HRe := Lib.hid hR
    clear hBe hsp hR
    go_wp2_with fail
    refine HTl.out.mono ?_
    intro E w4 hq
    have HF : Hid (APo w base m o ck e mb g (openA (setAt s 14)) (.returned (.int .i64 R.e)) w4) := Lib.hid (by rw [HQ.out, HRe.out]; have h9 := hq.pre HT3.out; rw [hq.1] at h9; exact h9)
    have hE := hq.1
    clear hq
    subst hE
    go_wp2
    go_ret
    exact HF.out
set_option maxHeartbeats 8000000 in
theorem aendattrs_gt (b : UInt8) (h : AX w base m o ck e mb g s) (hp : OPre s) (hb : b.toNat = 62) :
    Calls Tryz.prog 131 #[.pointer (some ⟨m, 0, none⟩), .int .u8 (b.toNat : Int), .pointer (some ⟨o, 0, none⟩)] w (APo w base m o ck e mb g (openA (setAt s 15))) := by
  have c0 := h.at0
  have f0 := h.frz 0
  have hlt := h.lt
  have hop := hp.op
  have z47 : ((b.toNat : Int) == 47) = false := by rw [beq_eq_false_iff_ne]; omega
  have z : ((b.toNat : Int) == 62) = true := by rw [beq_iff_eq]; omega
  have h1 := h.setAt 15
  have HT : Hid (Tch base axO w (w.setCell ⟨m, 0, none⟩ (.int .i64 15)).drew) := Lib.hid h1.2.drew
  have HD : Hid (AX (w.setCell ⟨m, 0, none⟩ (.int .i64 15)).drew base m o ck e mb g (setAt s 15)) := Lib.hid h1.1.drew
  obtain ⟨av, ov, hM⟩ := h1.1.drew.mc
  obtain ⟨A, cap, rfl, hcap⟩ := own_shape hM.opn
  have d18 : (w.setCell ⟨m, 0, none⟩ (.int .i64 15)).drew.cell? ⟨m, 18, none⟩ = some (.slice A s.m.op.length cap) := hM.cells2.2.2.2.2.2.2.2.1
  have d11 : (w.setCell ⟨m, 0, none⟩ (.int .i64 15)).drew.cell? ⟨m, 11, none⟩ = some (.string ⟨s.m.el.p.toArray⟩) := hM.cells2.1
  have d12 : (w.setCell ⟨m, 0, none⟩ (.int .i64 15)).drew.cell? ⟨m, 12, none⟩ = some (.string ⟨s.m.el.l.toArray⟩) := hM.cells2.2.1
  have HM := Lib.hid hM
  have HP := Lib.hid hp
  clear h h1 hp hM hb
  go_enter Tryz.func131, Tryz.ntmps131
  go_wp2
  refine region_g [13] (S := (fun W => W.cell? ⟨m, 18, none⟩ = some (.slice A s.m.op.length cap) ∧ W.cell? ⟨m, 11, none⟩ = some (.string ⟨s.m.el.p.toArray⟩) ∧ W.cell? ⟨m, 12, none⟩ = some (.string ⟨s.m.el.l.toArray⟩))) (by kernel_rfl) ⟨d18, d11, d12⟩ (fun hH => ?_)
  refine g_take (i := 0) (v := .pointer (some ⟨m, 0, none⟩)) (by rfl) (by kernel_rfl) (by kernel_rfl) (by kernel_rfl) (by kernel_rfl) (fun _ _ _ h => (by cases h.1)) (Or.inl ⟨by kernel_rfl, fun W hS => (by obtain ⟨s0, s1, s2⟩ := hS; go_simp)⟩) hH ?_
  simp only [Act.put, List.setIfInBounds_toArray, List.set_cons_zero, List.set_cons_succ]
  refine g_take (i := 1) (v := .pointer (some ⟨m, 0, none⟩)) (by rfl) (by kernel_rfl) (by kernel_rfl) (by kernel_rfl) (by kernel_rfl) (fun _ _ _ h => (by cases h.1)) (Or.inl ⟨by kernel_rfl, fun W hS => (by obtain ⟨s0, s1, s2⟩ := hS; go_simp)⟩) hH ?_
  simp only [Act.put, List.setIfInBounds_toArray, List.set_cons_zero, List.set_cons_succ]
  refine g_take (i := 2) (v := .pointer (some ⟨m, 0, none⟩)) (by rfl) (by kernel_rfl) (by kernel_rfl) (by kernel_rfl) (by kernel_rfl) (fun _ _ _ h => (by cases h.1)) (Or.inl ⟨by kernel_rfl, fun W hS => (by obtain ⟨s0, s1, s2⟩ := hS; go_simp)⟩) hH ?_
  simp only [Act.put, List.setIfInBounds_toArray, List.set_cons_zero, List.set_cons_succ]
  refine g_take (i := 3) (v := .pointer (some ⟨m, 18, none⟩)) (by rfl) (by kernel_rfl) (by kernel_rfl) (by kernel_rfl) (by kernel_rfl) (fun _ _ _ h => (by cases h.1)) (Or.inl ⟨by kernel_rfl, fun W hS => (by obtain ⟨s0, s1, s2⟩ := hS; go_simp)⟩) hH ?_
  simp only [Act.put, List.setIfInBounds_toArray, List.set_cons_zero, List.set_cons_succ]
  refine g_take (i := 4) (v := .slice A s.m.op.length cap) (by rfl) (by kernel_rfl) (by kernel_rfl) (by kernel_rfl) (by kernel_rfl) (fun _ _ _ h => (by cases h.1)) (Or.inl ⟨by kernel_rfl, fun W hS => (by obtain ⟨s0, s1, s2⟩ := hS; go_simp)⟩) hH ?_
  simp only [Act.put, List.setIfInBounds_toArray, List.set_cons_zero, List.set_cons_succ]
  refine g_take (i := 5) (v := .pointer (some ⟨m, 0, none⟩)) (by rfl) (by kernel_rfl) (by kernel_rfl) (by kernel_rfl) (by kernel_rfl) (fun _ _ _ h => (by cases h.1)) (Or.inl ⟨by kernel_rfl, fun W hS => (by obtain ⟨s0, s1, s2⟩ := hS; go_simp)⟩) hH ?_
  simp only [Act.put, List.setIfInBounds_toArray, List.set_cons_zero, List.set_cons_succ]
  refine g_take (i := 6) (v := .pointer (some ⟨m, 0, none⟩)) (by rfl) (by kernel_rfl) (by kernel_rfl) (by kernel_rfl) (by kernel_rfl) (fun _ _ _ h => (by cases h.1)) (Or.inl ⟨by kernel_rfl, fun W hS => (by obtain ⟨s0, s1, s2⟩ := hS; go_simp)⟩) hH ?_
  simp only [Act.put, List.setIfInBounds_toArray, List.set_cons_zero, List.set_cons_succ]
  refine g_take (i := 7) (v := .pointer (some ⟨m, 11, none⟩)) (by rfl) (by kernel_rfl) (by kernel_rfl) (by kernel_rfl) (by kernel_rfl) (fun _ _ _ h => (by cases h.1)) (Or.inl ⟨by kernel_rfl, fun W hS => (by obtain ⟨s0, s1, s2⟩ := hS; go_simp)⟩) hH ?_
  simp only [Act.put, List.setIfInBounds_toArray, List.set_cons_zero, List.set_cons_succ]
  refine g_take (i := 8) (v := .agg #[.string ⟨s.m.el.p.toArray⟩, .string ⟨s.m.el.l.toArray⟩]) (by rfl) (by kernel_rfl) (by kernel_rfl) (by kernel_rfl) (by kernel_rfl) (fun _ _ _ h => (by cases h.1)) (Or.inl ⟨by kernel_rfl, fun W hS => (by obtain ⟨s0, s1, s2⟩ := hS; go_simp)⟩) hH ?_
  simp only [Act.put, List.setIfInBounds_toArray, List.set_cons_zero, List.set_cons_succ]
  refine g_one (i := 9) (by kernel_rfl) (by rfl) (fun K hK => ?_)
  go_simp
  have hMa := HM.out.below ((Below.refl _ _).alloc (Nat.le_refl _) (.cells #[sv s.m.el.p, sv s.m.el.l] 97))
  have hTa : Tch base axO w _ := HT.out.alloc (.cells #[sv s.m.el.p, sv s.m.el.l] 97)
  refine hK.out _ _ (fun _ => ⟨hMa.cells2.2.2.2.2.2.2.2.1, hMa.cells2.1, hMa.cells2.2.1⟩) (fun _ => ?_)
  clear hK K hH
  refine g_one (i := 10) (by kernel_rfl) (by rfl) (fun K hK => ?_)
  refine step_appG (by rfl) (.tmp 23) (.tmp 28) 99 (by rfl) base 97 (.agg #[.string ⟨#[]⟩, .string ⟨#[]⟩]) 2 32 Tryz.underlying99 Tryz.infoNa (by rfl) (by decide) (.slice A s.m.op.length cap) s.m.op.length (naCells s.m.op) [sv s.m.el.p, sv s.m.el.l] (by rfl) (by exact hMa.opn) (by simp [Value.oneCell', sv]) ⟨(w.setCell ⟨m, 0, none⟩ (.int .i64 15)).drew.heap.size, 0, none⟩ 1 1 (by rfl) (by go_simp) (by exact cells2S _ _ _ _) (by simp [maxLen]; omega) (by omega) hMa.hb ?_
  intro v7 w7 hown7 hg7 hnb7
  have hl8 : (s.m.op ++ [s.m.el]).length = s.m.op.length + 1 := by simp
  have hown8 : w7.ownsRow base 97 2 v7 (s.m.op ++ [s.m.el]).length (naCells (s.m.op ++ [s.m.el])) := by
    rw [hl8, naCells_snoc]; exact hown7
  obtain ⟨p1, p2, pb⟩ := HM.out.pushOp (M' := { s.m with a := 15, op := s.m.op ++ [s.m.el] }) hown8 hg7 hnb7 (fun _ => rfl) rfl
  have hX := HD.out.tchO p2 ⟨_, _, p1⟩ rfl rfl rfl
  have HX : Hid (AX (w7.setCell ⟨m, 18, none⟩ v7) base m o ck e mb g { s with m := { s.m with a := 15, op := s.m.op ++ [s.m.el] } }) := Lib.hid hX
  have HT7 := Lib.hid (HT.out.trans (p2.wide fun _ h => (.inr h : axO _)))
  obtain ⟨A7, cap7, rfl, _⟩ := own_shape hown8
  rw [hl8] at HX HT7 ⊢
  have hs7 : w7.cell? ⟨m, 18, none⟩ = some (.slice A s.m.op.length cap) ∧ w7.cell? ⟨m, 11, none⟩ = some (.string ⟨s.m.el.p.toArray⟩) ∧ w7.cell? ⟨m, 12, none⟩ = some (.string ⟨s.m.el.l.toArray⟩) := ⟨pb.cell 18, pb.cell 11, pb.cell 12⟩
  have p4 := pb.frozen 18
  have p5 := pb.lt
  have p3 : w7.cell? ⟨m, 18, none⟩ = some (.slice A s.m.op.length cap) := pb.cell 18
  clear hown7 hown8 hg7 hnb7 hMa hTa hX p1 p2 pb HT HD HM d18 d11 d12
  refine hK.out _ _ (fun _ => hs7) (fun _ => ?_)
  clear hK K
  try simp only [Act.put, List.setIfInBounds_toArray, List.set_cons_zero, List.set_cons_succ]
  refine g_one (i := 11) (by kernel_rfl) (by rfl) (fun K hK => ?_)
  go_simp
  refine hK.out _ _ (fun _ => hs7) (fun _ => ?_)
  clear hK K
  refine g_one (i := 12) (by kernel_rfl) (by rfl) (fun K hK => ?_)
  go_simp
  refine hK.out _ _ (fun _ => hs7) (fun _ => ?_)
  clear hK K
  refine g_one (i := 13) (by kernel_rfl) (by rfl) (fun K hK => ?_)
  go_simp
  refine hK.out _ _ (fun h => absurd (List.mem_singleton.2 rfl) h) (fun _ => ?_)
  clear hK K
  refine g_done (by kernel_rfl) ⟨by first | rfl | trivial, ?_⟩ _
  obtain ⟨W8, hW8⟩ : ∃ W8, w7.setCell ⟨m, 18, none⟩ (.slice A7 (s.m.op.length + 1) cap7) = W8 := ⟨_, rfl⟩
  rw [hW8] at HX HT7 ⊢
  clear hW8 p3 p4 p5 hs7
  have c19 : W8.cell? ⟨m, 19, none⟩ = some (.pointer (some ⟨g, 0, none⟩)) := by obtain ⟨_, _, q⟩ := HX.out.mc; exact q.cells2.2.2.2.2.2.2.2.2
  have hl8' := HX.out.lt
  have HO := Lib.hid (HX.out.openS HP.out.sl)
  go_wp2_with fail
  refine HO.out.mono ?_
  rintro E w2 ⟨rfl, h2, t2⟩
  change AX w2 base m o ck e mb g { s with m := { s.m with a := 15, op := s.m.op ++ [s.m.el], sc := [] :: s.m.sc } } at h2
  have HB := Lib.hid (abind_any h2 HP.out.al HP.out.aok)
  have HT2 := Lib.hid (HT7.out.trans t2)
  clear h2 t2 c19 hl8' HO HX
  obtain ⟨⟨Bst, Be⟩, hBr⟩ : ∃ r, bindAllA s.m.ats ([] :: s.m.sc) = r := ⟨_, rfl⟩
  have HBr := Lib.hid hBr
  clear hBr
  go_wp2_with fail
  refine HB.out.mono ?_
  intro E w3 hq
  obtain ⟨hE, h3, t3⟩ := hq
  change E = .returned (.int .i64 (bindAllA s.m.ats ([] :: s.m.sc)).e) at hE
  change AX w3 base m o ck e mb g { s with m := { s.m with a := 15, op := s.m.op ++ [s.m.el], sc := (bindAllA s.m.ats ([] :: s.m.sc)).st } } at h3
  rw [HBr.out] at hE h3
  subst hE
  have HT3 := Lib.hid (HT2.out.trans (t3.wide fun _ h => (.inl h : axO _)))
  have H3 := Lib.hid h3
  clear h3 t3
  by_cases hBe : Be ≠ 0
  · have zB : (Be != 0) = true := by rw [bne_iff_ne]; exact hBe
    have HF : Hid (APo w base m o ck e mb g (openA (setAt s 15)) (.returned (.int .i64 Be)) w3) := Lib.hid (by
      unfold openA
      rw [show bindAllA (setAt s 15).m.ats ([] :: (setAt s 15).m.sc) = ⟨Bst, Be⟩ from HBr.out, if_pos hBe]
      exact ⟨rfl, H3.out, HT3.out⟩)
    clear hBe
    go_wp2
    go_ret
    exact HF.out
  · have hB0 : Be = 0 := by simpa using hBe
    subst hB0
    have hsp : SpsOk Bst := by have := HP.out.sp.open_.bindAll HP.out.aok; rw [HBr.out] at this; exact this
    have HTl := Lib.hid (atellelem_any H3.out HP.out.al HP.out.aok HP.out.e1 HP.out.e2 HP.out.good HP.out.ln hsp)
    have HQ := Lib.hid (show openA (setAt s 15) = tellElemA { s with m := { s.m with a := 15, op := s.m.op ++ [s.m.el], sc := Bst } } by
      unfold openA
      rw [show bindAllA (setAt s 15).m.ats ([] :: (setAt s 15).m.sc) = ⟨Bst, 0⟩ from HBr.out, if_neg (fun hc => hc rfl)]
      rfl)
    obtain ⟨R, hR⟩ : ∃ R, tellElemA { s with m := { s.m with a := 15, op := s.m.op ++ [s.m.el], sc := Bst } } = R := ⟨_, rfl⟩
    rw [hR] at HTl
    have HRe := Lib.hid hR
    clear hBe hsp hR
    go_wp2_with fail
    refine HTl.out.mono ?_
    intro E w4 hq
    have HF : Hid (APo w base m o ck e mb g (openA (setAt s 15)) (.returned (.int .i64 R.e)) w4) := Lib.hid (by rw [HQ.out, HRe.out]; have h9 := hq.pre HT3.out; rw [hq.1] at h9; exact h9)
    have hE := hq.1
    clear hq
    subst hE
    go_wp2
    go_ret
    exact HF.out
theorem aendattrs_any (b : UInt8) (h : AX w base m o ck e mb g s) (hp : OPre s) :
    Calls Tryz.prog 131 #[.pointer (some ⟨m, 0, none⟩), .int .u8 (b.toNat : Int), .pointer (some ⟨o, 0, none⟩)] w (APo w base m o ck e mb g (endAttrsA s b)) := by
  unfold endAttrsA
  by_cases h47 : b.toNat = 47
  · rw [if_pos h47]; exact aendattrs_sl b h hp h47
  · rw [if_neg h47]
    by_cases h62 : b.toNat = 62
    · rw [if_pos h62]; exact aendattrs_gt b h hp h62
    · rw [if_neg h62]
      have z47 : ((b.toNat : Int) == 47) = false := by rw [beq_eq_false_iff_ne]; omega
      have z62 : ((b.toNat : Int) == 62) = false := by rw [beq_eq_false_iff_ne]; omega
      have HF := Lib.hid (APo.of h (Tch.refl _ _ _) 2)
      clear h hp h47 h62
      go_enter Tryz.func131, Tryz.ntmps131
      go_wp2
      go_ret
      exact HF.out
end
end Go.Proofs.YtjepnddndpmnnaaGreat
