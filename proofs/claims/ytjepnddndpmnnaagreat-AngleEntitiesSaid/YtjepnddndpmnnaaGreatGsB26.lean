/-
  angle: attrText; the rows of attributes and of open elements, appended to.
  angle: calls of the scopes; endElem, endEmpty, content.
-/
import Derived.Test.YtjepnddndpmnnaaGreatGsB25
namespace Go.Proofs.YtjepnddndpmnnaaGreat
open Go.RowKit Go.Maps
set_option maxRecDepth 100000
set_option linter.unusedSimpArgs false
set_option linter.unusedVariables false
set_option linter.unusedSectionVars false
set_option linter.unusedSectionVars false
variable [Tab] [Fo]

theorem Tryz.infoAt : (Tryz.prog.info? 197).map (fun i => (i.zero, i.size, i.bytes)) = some (some (.agg #[.string ⟨#[]⟩, .string ⟨#[]⟩, .string ⟨#[]⟩]), 3, 48) := by kernel_rfl
theorem Tryz.infoNa : (Tryz.prog.info? 97).map (fun i => (i.zero, i.size, i.bytes)) = some (some (.agg #[.string ⟨#[]⟩, .string ⟨#[]⟩]), 2, 32) := by kernel_rfl
theorem cells3S (w : World) (a b c : Value) (t : TypeId) : ∀ j u, [a, b, c][j]? = some u → (w.alloc (.cells #[a, b, c] t)).cell? ((⟨w.heap.size, 0, none⟩ : Addr).add j) = some u := by
  intro j u hj
  have hB := Blk.new w t #[a, b, c]
  match j with
  | 0 => simp at hj; subst hj; exact hB.cell 0
  | 1 => simp at hj; subst hj; exact hB.cell 1
  | 2 => simp at hj; subst hj; exact hB.cell 2
  | n + 3 => simp at hj
theorem cells2S (w : World) (a b : Value) (t : TypeId) : ∀ j u, [a, b][j]? = some u → (w.alloc (.cells #[a, b] t)).cell? ((⟨w.heap.size, 0, none⟩ : Addr).add j) = some u := by
  intro j u hj
  have hB := Blk.new w t #[a, b]
  match j with
  | 0 => simp at hj; subst hj; exact hB.cell 0
  | 1 => simp at hj; subst hj; exact hB.cell 1
  | n + 2 => simp at hj
theorem atCells_snoc (l : List (Na × List UInt8)) (x : Na × List UInt8) : atCells (l ++ [x]) = atCells l ++ [sv x.1.p, sv x.1.l, sv x.2] := by unfold atCells; rw [List.flatMap_append]; rfl
theorem naCells_snoc (l : List Na) (x : Na) : naCells (l ++ [x]) = naCells l ++ [sv x.p, sv x.l] := by unfold naCells; rw [List.flatMap_append]; rfl
def atO : Obj → Prop
  | .cells _ t _ => t = 197
  | _ => False
def naO : Obj → Prop
  | .cells _ t _ => t = 97
  | _ => False
theorem at_ag {o : Obj} (h : atO o) : agO o := by cases o <;> simp only [atO, agO] at h ⊢; exact .inr (.inl h)
theorem na_ag {o : Obj} (h : naO o) : agO o := by cases o <;> simp only [naO, agO] at h ⊢; exact .inr (.inr h)

section
variable {w w' : World} {base m o ck e mb g : Nat} {s : As} {M M' : Ag} {av ov : Value}
/-- A row's value, with its length. -/
theorem own_shape {b : Nat} {t : TypeId} {sz n : Nat} {v : Value} {xs : List Value} (h : w.ownsRow b t sz v n xs) : ∃ A cap, v = .slice A n cap ∧ n ≤ cap := by
  rcases h.2 with ⟨rfl, h0⟩ | ⟨g', cap, cur, rfl, _, _, hnc, _⟩
  · exact ⟨none, 0, by rw [h0], by omega⟩
  · exact ⟨_, cap, rfl, hnc⟩
/-- The row of the attributes, appended to. -/
theorem AgAt.pushAt {o1 : Obj} {v' : Value} (h : AgAt w base m M e g av ov) (hown : w'.ownsRow base 197 3 v' M'.ats.length (atCells M'.ats)) (hg : (w.alloc o1).grownBy w' av.ownBlock) (hnb : NB (w.alloc o1) av v')
    (hc : ∀ u, agCells M' e g u ov = (agCells M e g av ov).setIfInBounds 15 u) (ho : M'.op = M.op) : AgAt (w'.setCell ⟨m, 15, none⟩ v') base m M' e g v' ov ∧ Tch base agO w (w'.setCell ⟨m, 15, none⟩ v') ∧ Blk w' m 101 (agCells M e g av ov) := by
  have ha := h.below ((Below.refl _ _).alloc (Nat.le_refl _) o1)
  have hT : Tch base atO (w.alloc o1) w' := Tch.of_row ha.ats hg (Nat.le_refl _) ha.nfa (fun _ => rfl)
  have hT2 : Tch base agO w w' := (Tch.of_below ((Below.refl _ _).alloc (Nat.le_refl _) o1)).trans (hT.wide fun _ => at_ag)
  have hB : Blk w' m 101 (agCells M e g av ov) := ha.blk.tch hT (.inr (by simp only [atO]; decide))
  have hS : Tch base agOnly w' (w'.setCell ⟨m, 15, none⟩ v') := (Tch.refl _ _ _).set hB h.bm h.nf (show agOnly (.cells _ _ _) from rfl) 15 v'
  have hnf : NF v' := ha.nfa.nb hnb ha.lim
  have hO : w'.ownsRow base 97 2 ov M.op.length (naCells M.op) := row_tch ha.opn hT (fun _ _ => by simp only [atO]; decide)
  refine ⟨⟨by rw [hc]; exact hB.set_ 15 v', row_tch hown hS (fun _ _ => by simp only [agOnly]; decide), by rw [ho]; exact row_tch hO hS (fun _ _ => by simp only [agOnly]; decide), hnf, h.nfo, h.bm, h.nf, Nat.le_trans h.lim (Nat.le_trans hT2.size hS.size)⟩, hT2.trans (hS.wide fun _ => ag_of), hB⟩
/-- The row of the open elements, appended to. -/
theorem AgAt.pushOp {o1 : Obj} {v' : Value} (h : AgAt w base m M e g av ov) (hown : w'.ownsRow base 97 2 v' M'.op.length (naCells M'.op)) (hg : (w.alloc o1).grownBy w' ov.ownBlock) (hnb : NB (w.alloc o1) ov v')
    (hc : ∀ u, agCells M' e g av u = (agCells M e g av ov).setIfInBounds 18 u) (ho : M'.ats = M.ats) : AgAt (w'.setCell ⟨m, 18, none⟩ v') base m M' e g av v' ∧ Tch base agO w (w'.setCell ⟨m, 18, none⟩ v') ∧ Blk w' m 101 (agCells M e g av ov) := by
  have ha := h.below ((Below.refl _ _).alloc (Nat.le_refl _) o1)
  have hT : Tch base naO (w.alloc o1) w' := Tch.of_row ha.opn hg (Nat.le_refl _) ha.nfo (fun _ => rfl)
  have hT2 : Tch base agO w w' := (Tch.of_below ((Below.refl _ _).alloc (Nat.le_refl _) o1)).trans (hT.wide fun _ => na_ag)
  have hB : Blk w' m 101 (agCells M e g av ov) := ha.blk.tch hT (.inr (by simp only [naO]; decide))
  have hS : Tch base agOnly w' (w'.setCell ⟨m, 18, none⟩ v') := (Tch.refl _ _ _).set hB h.bm h.nf (show agOnly (.cells _ _ _) from rfl) 18 v'
  have hnf : NF v' := ha.nfo.nb hnb ha.lim
  have hO : w'.ownsRow base 197 3 av M.ats.length (atCells M.ats) := row_tch ha.ats hT (fun _ _ => by simp only [naO]; decide)
  refine ⟨⟨by rw [hc]; exact hB.set_ 18 v', by rw [ho]; exact row_tch hO hS (fun _ _ => by simp only [agOnly]; decide), row_tch hown hS (fun _ _ => by simp only [agOnly]; decide), h.nfa, hnf, h.bm, h.nf, Nat.le_trans h.lim (Nat.le_trans hT2.size hS.size)⟩, hT2.trans (hS.wide fun _ => ag_of), hB⟩

set_option maxHeartbeats 4000000 in
theorem aattrtext_any (b : UInt8) (h : AX w base m o ck e mb g s) (hok : AgOk s.m) (hla : s.m.ats.length ≤ 1000) :
    Calls Tryz.prog 117 #[.pointer (some ⟨m, 0, none⟩), .int .u8 (b.toNat : Int)] w (APo w base m o ck e mb g (s.mr (attrTextA s.m b))) := by
  have c0 := h.at0
  have f0 := h.frz 0
  have hlt := h.lt
  have hE := Lib.hid (aended_any b 34 h)
  unfold attrTextA
  cases hz : endedA s.m b 34 with
  | false =>
    rw [if_neg (by decide)]
    rw [hz] at hE
    have hA := Lib.hid (aadd_any b h hok)
    obtain ⟨R, hR⟩ : ∃ R, s.mr (addR s.m b) = R := ⟨_, rfl⟩
    rw [hR] at hA ⊢
    clear h hok hz hR
    go_enter Tryz.func117, Tryz.ntmps117
    go_wp2_with fail
    refine hE.out.mono ?_
    rintro E w1 ⟨rfl, rfl⟩
    go_wp2_with fail
    refine hA.out.mono ?_
    intro E w3 hq
    have HF := Lib.hid hq
    have hE := hq.1
    clear hq
    subst hE
    go_wp2
    go_ret
    exact HF.out
  | true =>
    rw [if_pos rfl]
    rw [hz] at hE
    have h1 := h.setAt 8
    have hr := hok.rt
    have HD : Hid (AX (w.setCell ⟨m, 0, none⟩ (.int .i64 8)).drew base m o ck e mb g (setAt s 8)) := Lib.hid h1.1.drew
    have HT : Hid (Tch base axO w (w.setCell ⟨m, 0, none⟩ (.int .i64 8)).drew) := Lib.hid h1.2.drew
    obtain ⟨av, ov, hM⟩ := h1.1.drew.mc
    obtain ⟨A, cap, rfl, hcap⟩ := own_shape hM.ats
    have d15 : (w.setCell ⟨m, 0, none⟩ (.int .i64 8)).drew.cell? ⟨m, 15, none⟩ = some (.slice A s.m.ats.length cap) := hM.cells2.2.2.2.2.1
    have d13 : (w.setCell ⟨m, 0, none⟩ (.int .i64 8)).drew.cell? ⟨m, 13, none⟩ = some (.string ⟨s.m.an.p.toArray⟩) := hM.cells2.2.2.1
    have d14 : (w.setCell ⟨m, 0, none⟩ (.int .i64 8)).drew.cell? ⟨m, 14, none⟩ = some (.string ⟨s.m.an.l.toArray⟩) := hM.cells2.2.2.2.1
    have HM := Lib.hid hM
    clear h hz h1 hok hM
    go_enter Tryz.func117, Tryz.ntmps117
    go_wp2_with fail
    refine hE.out.mono ?_
    rintro E w ⟨rfl, rfl⟩
    go_wp2
    refine region_g [18] (S := (fun W => W.cell? ⟨m, 15, none⟩ = some (.slice A s.m.ats.length cap) ∧ W.cell? ⟨m, 13, none⟩ = some (.string ⟨s.m.an.p.toArray⟩) ∧ W.cell? ⟨m, 14, none⟩ = some (.string ⟨s.m.an.l.toArray⟩))) (by kernel_rfl) ⟨d15, d13, d14⟩ (fun hH => ?_)
    refine g_take (i := 0) (v := .pointer (some ⟨m, 0, none⟩)) (by rfl) (by kernel_rfl) (by kernel_rfl) (by kernel_rfl) (by kernel_rfl) (fun _ _ _ h => (by cases h.1)) (Or.inl ⟨by kernel_rfl, fun W hS => (by obtain ⟨s0, s1, s2⟩ := hS; go_simp)⟩) hH ?_
    simp only [Act.put, List.setIfInBounds_toArray, List.set_cons_zero, List.set_cons_succ]
    refine g_take (i := 1) (v := .pointer (some ⟨m, 0, none⟩)) (by rfl) (by kernel_rfl) (by kernel_rfl) (by kernel_rfl) (by kernel_rfl) (fun _ _ _ h => (by cases h.1)) (Or.inl ⟨by kernel_rfl, fun W hS => (by obtain ⟨s0, s1, s2⟩ := hS; go_simp)⟩) hH ?_
    simp only [Act.put, List.setIfInBounds_toArray, List.set_cons_zero, List.set_cons_succ]
    refine g_take (i := 2) (v := .pointer (some ⟨m, 0, none⟩)) (by rfl) (by kernel_rfl) (by kernel_rfl) (by kernel_rfl) (by kernel_rfl) (fun _ _ _ h => (by cases h.1)) (Or.inl ⟨by kernel_rfl, fun W hS => (by obtain ⟨s0, s1, s2⟩ := hS; go_simp)⟩) hH ?_
    simp only [Act.put, List.setIfInBounds_toArray, List.set_cons_zero, List.set_cons_succ]
    refine g_take (i := 3) (v := .pointer (some ⟨m, 15, none⟩)) (by rfl) (by kernel_rfl) (by kernel_rfl) (by kernel_rfl) (by kernel_rfl) (fun _ _ _ h => (by cases h.1)) (Or.inl ⟨by kernel_rfl, fun W hS => (by obtain ⟨s0, s1, s2⟩ := hS; go_simp)⟩) hH ?_
    simp only [Act.put, List.setIfInBounds_toArray, List.set_cons_zero, List.set_cons_succ]
    refine g_take (i := 4) (v := .slice A s.m.ats.length cap) (by rfl) (by kernel_rfl) (by kernel_rfl) (by kernel_rfl) (by kernel_rfl) (fun _ _ _ h => (by cases h.1)) (Or.inl ⟨by kernel_rfl, fun W hS => (by obtain ⟨s0, s1, s2⟩ := hS; go_simp)⟩) hH ?_
    simp only [Act.put, List.setIfInBounds_toArray, List.set_cons_zero, List.set_cons_succ]
    refine g_take (i := 5) (v := .pointer (some ⟨m, 0, none⟩)) (by rfl) (by kernel_rfl) (by kernel_rfl) (by kernel_rfl) (by kernel_rfl) (fun _ _ _ h => (by cases h.1)) (Or.inl ⟨by kernel_rfl, fun W hS => (by obtain ⟨s0, s1, s2⟩ := hS; go_simp)⟩) hH ?_
    simp only [Act.put, List.setIfInBounds_toArray, List.set_cons_zero, List.set_cons_succ]
    refine g_take (i := 6) (v := .pointer (some ⟨m, 0, none⟩)) (by rfl) (by kernel_rfl) (by kernel_rfl) (by kernel_rfl) (by kernel_rfl) (fun _ _ _ h => (by cases h.1)) (Or.inl ⟨by kernel_rfl, fun W hS => (by obtain ⟨s0, s1, s2⟩ := hS; go_simp)⟩) hH ?_
    simp only [Act.put, List.setIfInBounds_toArray, List.set_cons_zero, List.set_cons_succ]
    refine g_take (i := 7) (v := .pointer (some ⟨m, 13, none⟩)) (by rfl) (by kernel_rfl) (by kernel_rfl) (by kernel_rfl) (by kernel_rfl) (fun _ _ _ h => (by cases h.1)) (Or.inl ⟨by kernel_rfl, fun W hS => (by obtain ⟨s0, s1, s2⟩ := hS; go_simp)⟩) hH ?_
    simp only [Act.put, List.setIfInBounds_toArray, List.set_cons_zero, List.set_cons_succ]
    refine g_take (i := 8) (v := .agg #[.string ⟨s.m.an.p.toArray⟩, .string ⟨s.m.an.l.toArray⟩]) (by rfl) (by kernel_rfl) (by kernel_rfl) (by kernel_rfl) (by kernel_rfl) (fun _ _ _ h => (by cases h.1)) (Or.inl ⟨by kernel_rfl, fun W hS => (by obtain ⟨s0, s1, s2⟩ := hS; go_simp)⟩) hH ?_
    simp only [Act.put, List.setIfInBounds_toArray, List.set_cons_zero, List.set_cons_succ]
    refine g_take (i := 9) (v := .pointer (some ⟨m, 0, none⟩)) (by rfl) (by kernel_rfl) (by kernel_rfl) (by kernel_rfl) (by kernel_rfl) (fun _ _ _ h => (by cases h.1)) (Or.inl ⟨by kernel_rfl, fun W hS => (by obtain ⟨s0, s1, s2⟩ := hS; go_simp)⟩) hH ?_
    simp only [Act.put, List.setIfInBounds_toArray, List.set_cons_zero, List.set_cons_succ]
    refine g_take (i := 10) (v := .pointer (some ⟨m, 0, none⟩)) (by rfl) (by kernel_rfl) (by kernel_rfl) (by kernel_rfl) (by kernel_rfl) (fun _ _ _ h => (by cases h.1)) (Or.inl ⟨by kernel_rfl, fun W hS => (by obtain ⟨s0, s1, s2⟩ := hS; go_simp)⟩) hH ?_
    simp only [Act.put, List.setIfInBounds_toArray, List.set_cons_zero, List.set_cons_succ]
    refine g_take (i := 11) (v := .pointer (some ⟨m, 5, none⟩)) (by rfl) (by kernel_rfl) (by kernel_rfl) (by kernel_rfl) (by kernel_rfl) (fun _ _ _ h => (by cases h.1)) (Or.inl ⟨by kernel_rfl, fun W hS => (by obtain ⟨s0, s1, s2⟩ := hS; go_simp)⟩) hH ?_
    simp only [Act.put, List.setIfInBounds_toArray, List.set_cons_zero, List.set_cons_succ]
    refine g_one (i := 12) (by kernel_rfl) (by rfl) (fun K hK => ?_)
    go_simp
    refine (atake_eq HD.out).mono ?_
    rintro E w2 ⟨rfl, hw2⟩
    have h2 := HD.out.set 6 (.string ⟨#[]⟩) { s.m with a := 8, rt := [] } (fun _ _ => rfl) rfl rfl rfl rfl rfl
    have hM2 := HM.out.set 6 (.string ⟨#[]⟩) (M' := { s.m with a := 8, rt := [] }) rfl rfl rfl
    rw [← hw2] at h2 hM2
    have H2 := Lib.hid h2.1
    have HM2 := Lib.hid hM2
    have T2' := Lib.hid (HT.out.trans h2.2)
    have k15 : w2.cell? ⟨m, 15, none⟩ = some (.slice A s.m.ats.length cap) := hM2.cells2.2.2.2.2.1
    have k13 : w2.cell? ⟨m, 13, none⟩ = some (.string ⟨s.m.an.p.toArray⟩) := hM2.cells2.2.2.1
    have k14 : w2.cell? ⟨m, 14, none⟩ = some (.string ⟨s.m.an.l.toArray⟩) := hM2.cells2.2.2.2.1
    clear h2 hM2 hw2
    refine hK.out _ _ (fun _ => ⟨k15, k13, k14⟩) (fun _ => ?_)
    clear hK K hH
    try simp only [Act.put, List.setIfInBounds_toArray, List.set_cons_zero, List.set_cons_succ]
    refine g_one (i := 13) (by kernel_rfl) (by rfl) (fun K hK => ?_)
    go_simp
    refine hK.out _ _ (fun _ => ⟨k15, k13, k14⟩) (fun _ => ?_)
    clear hK K
    try simp only [Act.put, List.setIfInBounds_toArray, List.set_cons_zero, List.set_cons_succ]
    refine g_one (i := 14) (by kernel_rfl) (by rfl) (fun K hK => ?_)
    go_simp
    have hMa := HM2.out.below ((Below.refl w2.heap.size w2).alloc (Nat.le_refl _) (.cells #[sv s.m.an.p, sv s.m.an.l, sv s.m.rt] 197))
    refine hK.out _ _ (fun _ => ⟨hMa.cells2.2.2.2.2.1, hMa.cells2.2.2.1, hMa.cells2.2.2.2.1⟩) (fun _ => ?_)
    clear hK K
    refine g_one (i := 15) (by kernel_rfl) (by rfl) (fun K hK => ?_)
    refine step_appG (by rfl) (.tmp 23) (.tmp 33) 98 (by rfl) base 197 (.agg #[.string ⟨#[]⟩, .string ⟨#[]⟩, .string ⟨#[]⟩]) 3 48 Tryz.underlying98 Tryz.infoAt (by rfl) (by decide) (.slice A s.m.ats.length cap) s.m.ats.length (atCells s.m.ats) [sv s.m.an.p, sv s.m.an.l, sv s.m.rt] (by rfl) (by exact hMa.ats) (by simp [Value.oneCell', sv]) ⟨w2.heap.size, 0, none⟩ 1 1 (by rfl) (by rfl) (by exact cells3S w2 _ _ _ _) (by simp [maxLen]; omega) (by omega) hMa.hb ?_
    intro v7 w7 hown7 hg7 hnb7
    have hl8 : (s.m.ats ++ [(s.m.an, s.m.rt)]).length = s.m.ats.length + 1 := by simp
    have hown8 : w7.ownsRow base 197 3 v7 (s.m.ats ++ [(s.m.an, s.m.rt)]).length (atCells (s.m.ats ++ [(s.m.an, s.m.rt)])) := by
      rw [hl8, atCells_snoc]; exact hown7
    obtain ⟨p1, p2, pb⟩ := HM2.out.pushAt (M' := { s.m with a := 8, rt := [], ats := s.m.ats ++ [(s.m.an, s.m.rt)] }) hown8 hg7 hnb7 (fun _ => rfl) rfl
    have hX := H2.out.tchO p2 ⟨_, _, p1⟩ rfl rfl rfl
    have HF : Hid (APo w base m o ck e mb g (s.mr ⟨{ s.m with a := 8, ats := s.m.ats ++ [(s.m.an, s.m.rt)], rt := [] }, 0⟩) (.returned (.int .i64 0)) (w7.setCell ⟨m, 15, none⟩ v7)) := Lib.hid ⟨rfl, hX, T2'.out.trans (p2.wide fun _ h => .inr h)⟩
    obtain ⟨A7, cap7, rfl, _⟩ := own_shape hown8
    rw [hl8] at HF ⊢
    have hs7 : w7.cell? ⟨m, 15, none⟩ = some (.slice A s.m.ats.length cap) ∧ w7.cell? ⟨m, 13, none⟩ = some (.string ⟨s.m.an.p.toArray⟩) ∧ w7.cell? ⟨m, 14, none⟩ = some (.string ⟨s.m.an.l.toArray⟩) := by
      exact ⟨pb.cell 15, pb.cell 13, pb.cell 14⟩
    have p4 := pb.frozen 15
    have p5 := pb.lt
    have p3 : w7.cell? ⟨m, 15, none⟩ = some (.slice A s.m.ats.length cap) := pb.cell 15
    clear hown7 hown8 hg7 hnb7 hMa hX p1 p2 pb H2 HM2 T2' HT HD HM k15 k13 k14
    refine hK.out _ _ (fun _ => hs7) (fun _ => ?_)
    clear hK K
    try simp only [Act.put, List.setIfInBounds_toArray, List.set_cons_zero, List.set_cons_succ]
    refine g_one (i := 16) (by kernel_rfl) (by rfl) (fun K hK => ?_)
    go_simp
    refine hK.out _ _ (fun _ => hs7) (fun _ => ?_)
    clear hK K
    refine g_one (i := 17) (by kernel_rfl) (by rfl) (fun K hK => ?_)
    go_simp
    refine hK.out _ _ (fun _ => hs7) (fun _ => ?_)
    clear hK K
    refine g_one (i := 18) (by kernel_rfl) (by rfl) (fun K hK => ?_)
    go_simp
    refine hK.out _ _ (fun h => absurd (List.mem_singleton.2 rfl) h) (fun _ => ?_)
    clear hK K
    refine g_done (by kernel_rfl) ⟨by first | rfl | trivial, ?_⟩ _
    go_wp2
    go_ret
    exact HF.out
end
end Go.Proofs.YtjepnddndpmnnaaGreat
namespace Go.Proofs.YtjepnddndpmnnaaGreat
open Go.RowKit Go.Maps
set_option maxRecDepth 100000
set_option linter.unusedSimpArgs false
set_option linter.unusedVariables false
set_option linter.unusedSectionVars false
set_option linter.unusedSectionVars false
variable [Tab] [Fo]

section
variable {w w' : World} {base m o ck e mb g : Nat} {s : As} {M M' : Ag} {av ov : Value}
/-- Behind a call of the scopes. -/
theorem AX.scpc (h : AX w base m o ck e mb g s) {f : FuncId} {args : Array Value} {sc' : Ns.St} {E0 : Ending} (hC : ∀ S, Ns.SAt w base S g s.m.sc → Calls Tryz.prog f args w (fun E w' => E = E0 ∧ Ns.SAt w' base (Ext S w w') g sc' ∧ TS S anyO w w')) :
    Calls Tryz.prog f args w (fun E w' => E = E0 ∧ AX w' base m o ck e mb g { s with m := { s.m with sc := sc' } } ∧ Tch base axO w w') := by
  obtain ⟨av, ov, hM⟩ := h.mc
  obtain ⟨S, hX⟩ := h.xo
  refine (hC _ hX.x.scp).mono ?_
  rintro E w1 ⟨rfl, hS, ht⟩
  obtain ⟨S', hX', hT⟩ := hX.scpc hS ht
  exact ⟨rfl, ⟨⟨av, ov, (hM.of_x (hT.wide fun _ => .inr)).as rfl rfl rfl⟩, S', hX'⟩, hT.wide fun _ h => .inl (.inr h)⟩
theorem sat_ext {S : Nat → Prop} {sc : Ns.St} (h : Ns.SAt w' base S g sc) (hs : w.heap.size ≤ w'.heap.size) : Ns.SAt w' base (Ext S w w') g sc :=
  h.mono (fun k hk => by rcases hk with hk | hk; exact h.1 k hk; exact hk.2) fun _ _ _ hk _ => .inl hk
theorem AX.close (h : AX w base m o ck e mb g s) : Calls Tryz.prog 145 #[.pointer (some ⟨g, 0, none⟩)] w (fun E w' => E = .returned (.int .i64 (Ns.closeE s.m.sc)) ∧ AX w' base m o ck e mb g { s with m := { s.m with sc := Ns.closeS s.m.sc } } ∧ Tch base axO w w') :=
  h.scpc fun S hS => (Ns.close_any w base g S s.m.sc hS).mono fun E w1 ⟨h1, h2, h3⟩ => ⟨h1, sat_ext h2 h3.size, h3⟩
theorem AX.openS (h : AX w base m o ck e mb g s) (hl : s.m.sc.length ≤ 1000000) : Calls Tryz.prog 141 #[.pointer (some ⟨g, 0, none⟩)] w (fun E w' => E = .returned (.tuple #[]) ∧ AX w' base m o ck e mb g { s with m := { s.m with sc := [] :: s.m.sc } } ∧ Tch base axO w w') :=
  h.scpc fun S hS => Ns.open_any w base g S s.m.sc hS (by omega)
theorem AX.bind (h : AX w base m o ck e mb g s) (p t : List UInt8) (hp : p.length ≤ 1000) (ht : t.length ≤ 1000) : Calls Tryz.prog 144 #[.pointer (some ⟨g, 0, none⟩), .string ⟨p.toArray⟩, .string ⟨t.toArray⟩] w (fun E w' => E = .returned (.int .i64 (Ns.bindE p t s.m.sc)) ∧ AX w' base m o ck e mb g { s with m := { s.m with sc := Ns.bindS p t s.m.sc } } ∧ Tch base axO w w') :=
  h.scpc fun S hS => (Ns.bind_any w base g S s.m.sc ⟨p.toArray⟩ ⟨t.toArray⟩ hS (by rw [svSize]; omega) (by rw [svSize]; omega)).mono fun E w1 ⟨h1, h2, h3⟩ => ⟨h1, sat_ext h2 h3.size, h3⟩
theorem AX.space (h : AX w base m o ck e mb g s) (p : List UInt8) (hp : p.length ≤ 1000) : Calls Tryz.prog 158 #[.pointer (some ⟨g, 0, none⟩), .string ⟨p.toArray⟩] w (fun E w' => E = Ns.SpaceEnd p s.m.sc ∧ Below w.heap.size w w') := by
  obtain ⟨S, hX⟩ := h.xo
  exact Ns.sspace_any w base g _ s.m.sc ⟨p.toArray⟩ (by rw [svSize]; omega) hX.x.scp

theorem naCells_drop (l : List Na) {n : Nat} (hn : l.length = n + 1) : (naCells l).take (n * 2) = naCells l.dropLast := by
  have hne : l ≠ [] := by intro hc; rw [hc] at hn; cases hn
  have h1 := List.dropLast_concat_getLast hne
  have hl : l.dropLast.length = n := by rw [List.length_dropLast]; omega
  conv => lhs; rw [← h1, naCells_snoc]
  rw [List.take_append_of_le_length (by rw [naCells_len, hl]; omega), List.take_of_length_le (by rw [naCells_len, hl]; omega)]
theorem AgAt.cutOp {r n cap : Nat} (h : AgAt w base m M e g av (.slice (some ⟨r, 0, none⟩) (n + 1) cap)) (hn : M.op.length = n + 1) (hc : ∀ u, agCells M' e g av u = (agCells M e g av ov).setIfInBounds 18 u) (hc2 : M'.ats = M.ats) (ho : M'.op = M.op.dropLast) :
    AgAt (w.setCell ⟨m, 18, none⟩ (.slice (some ⟨r, 0, none⟩) n cap)) base m M' e g av (.slice (some ⟨r, 0, none⟩) n cap) ∧ Tch base agO w (w.setCell ⟨m, 18, none⟩ (.slice (some ⟨r, 0, none⟩) n cap)) := by
  have ht := h.touch 18 (.slice (some ⟨r, 0, none⟩) n cap)
  have hl : M'.op.length = n := by rw [ho, List.length_dropLast]; omega
  have h0 : w.ownsRow base 97 2 (.slice (some ⟨r, 0, none⟩) (n + 1) cap) (n + 1) (naCells M.op) := by rw [← hn]; exact hn ▸ h.opn
  have h1 := rowN_cut h0 (m := n) (by omega)
  rw [naCells_drop M.op hn, ← ho] at h1
  refine ⟨⟨?_, by rw [hc2]; exact row_tch h.ats ht (fun _ _ => by simp only [agOnly]; decide), by rw [hl]; exact row_tch h1 ht (fun _ _ => by simp only [agOnly]; decide), h.nfa, h.nfo, h.bm, h.nf, Nat.le_trans h.lim ht.size⟩, ht.wide fun _ => ag_of⟩
  rw [hc]
  have := h.blk.set_ 18 (.slice (some ⟨r, 0, none⟩) n cap)
  have e1 : (agCells M e g av ov).setIfInBounds 18 (.slice (some ⟨r, 0, none⟩) n cap) = (agCells M e g av (.slice (some ⟨r, 0, none⟩) (n + 1) cap)).setIfInBounds 18 (.slice (some ⟨r, 0, none⟩) n cap) := rfl
  rw [e1]
  exact this

set_option maxHeartbeats 4000000 in
theorem aendelem_any (h : AX w base m o ck e mb g s) (hop : s.m.op ≠ []) (hl : s.m.op.length ≤ 1000000) (hg : Good s.st) (hle : s.l.length ≤ 1000000) :
    Calls Tryz.prog 132 #[.pointer (some ⟨m, 0, none⟩), .pointer (some ⟨o, 0, none⟩)] w (APo w base m o ck e mb g (endElemA s)) := by
  have c19 : w.cell? ⟨m, 19, none⟩ = some (.pointer (some ⟨g, 0, none⟩)) := by obtain ⟨_, _, q⟩ := h.mc; exact q.cells2.2.2.2.2.2.2.2.2
  have hlt := h.lt
  have hC := Lib.hid h.close
  obtain ⟨n, hn⟩ : ∃ n, s.m.op.length = n + 1 := ⟨s.m.op.length - 1, by have := List.length_pos_iff.2 hop; omega⟩
  have HN := Lib.hid hn
  clear h hop
  go_enter Tryz.func132, Tryz.ntmps132
  go_wp2_with fail
  refine hC.out.mono ?_
  rintro E w1 ⟨rfl, h1, t1⟩
  have H1 := Lib.hid h1
  have T1 := Lib.hid t1
  obtain ⟨av, ov, hM⟩ := h1.mc
  obtain ⟨A, cap, rfl, hcap⟩ := own_shape hM.opn
  have hcm : cap ≤ 9223372036854775807 := by
    rcases hM.opn.2 with ⟨hv, _⟩ | ⟨g', c', cur, hv, _, _, _, hm, _⟩
    · injection hv with _ _ h3; rw [h3]; decide
    · injection hv with _ _ h3; rw [h3]; simpa [maxLen] using hm
  have hA : ∃ r, A = some ⟨r, 0, none⟩ := by
    rcases hM.opn.2 with ⟨hv, h0⟩ | ⟨g', c', cur, hv, _⟩
    · injection hv with _ h2; have e : s.m.op.length = 0 := h2; omega
    · injection hv with h2; exact ⟨g', h2⟩
  obtain ⟨r, rfl⟩ := hA
  change AgAt w1 base m _ e g av (.slice (some ⟨r, 0, none⟩) s.m.op.length cap) at hM
  change s.m.op.length ≤ cap at hcap
  rw [hn] at hM hcap
  have c18 : w1.cell? ⟨m, 18, none⟩ = some (.slice (some ⟨r, 0, none⟩) (n + 1) cap) := hM.cells2.2.2.2.2.2.2.2.1
  have f18 : w1.frozen? ⟨m, 18, none⟩ = false := hM.frz 18
  have c0 : w1.cell? ⟨m, 0, none⟩ = some (.int .i64 s.m.a) := hM.cells.1
  have f0 : w1.frozen? ⟨m, 0, none⟩ = false := hM.frz 0
  have hlt1 : m < w1.heap.size := hM.lt
  have hcut := hM.cutOp (ov := .slice (some ⟨r, 0, none⟩) (n + 1) cap) (M' := { s.m with sc := Ns.closeS s.m.sc, op := s.m.op.dropLast }) hn (fun _ => rfl) rfl rfl
  have h2 := h1.tchO hcut.2 ⟨_, _, hcut.1⟩ rfl rfl rfl
  have t2 := (t1.trans (hcut.2.wide fun _ h => (.inr h : axO _))).drew
  have hd : s.m.op.dropLast.length = n := by rw [List.length_dropLast]; omega
  have h3 := h2.drew.setAt 15
  have t3 := t2.trans h3.2
  have k0 := h3.1.at0
  have l0 := h3.1.frz 0
  have m0 := h3.1.lt
  by_cases hn0 : n = 0
  · subst hn0
    have h4 := h3.1.setAt 18
    have hE : (⟨{ s with m := closedA s.m }.m, s.st, s.l⟩ : As) = setAt (setAt { s with m := { s.m with sc := Ns.closeS s.m.sc, op := s.m.op.dropLast } } 15) 18 := by
      have e : s.m.op.dropLast = [] := List.eq_nil_of_length_eq_zero hd
      unfold closedA setAt
      rw [if_pos e]
    have HTell := Lib.hid (h4.1.tell (bare 12) hg (by decide) (by decide) hle)
    have HT4 := Lib.hid (t3.trans h4.2)
    have HEq := Lib.hid hE
    clear h1 t1 hM hcut h2 hn hC hd t2 h3 t3 h4 hE H1 T1
    go_wp2
    go_region
    go_wp2_with fail
    refine HTell.out.mono ?_
    rintro E w5 ⟨rfl, h5, t5⟩
    have HF : Hid (APo w base m o ck e mb g (endElemA s) (.returned (.int .i64 (stepE s.st (bare 12)))) w5) := Lib.hid ⟨rfl, by unfold endElemA; rw [show ({ s with m := closedA s.m } : As) = _ from HEq.out]; exact h5, HT4.out.trans (t5.wide fun _ h => (.inl h : axO _))⟩
    clear h5 t5
    go_wp2
    go_ret
    exact HF.out
  · have hE : (⟨{ s with m := closedA s.m }.m, s.st, s.l⟩ : As) = setAt { s with m := { s.m with sc := Ns.closeS s.m.sc, op := s.m.op.dropLast } } 15 := by
      have e : s.m.op.dropLast ≠ [] := fun hc => by rw [hc] at hd; exact hn0 hd.symm
      unfold closedA setAt
      rw [if_neg e]
    have z0 : ((n : Int) == 0) = false := by rw [beq_eq_false_iff_ne]; omega
    have HTell := Lib.hid (h3.1.tell (bare 12) hg (by decide) (by decide) hle)
    have HT4 := Lib.hid t3
    have HEq := Lib.hid hE
    clear h1 t1 hM hcut h2 hn hC hd t2 h3 t3 hE H1 T1
    go_wp2
    go_region
    go_wp2_with fail
    refine HTell.out.mono ?_
    rintro E w5 ⟨rfl, h5, t5⟩
    have HF : Hid (APo w base m o ck e mb g (endElemA s) (.returned (.int .i64 (stepE s.st (bare 12)))) w5) := Lib.hid ⟨rfl, by unfold endElemA; rw [show ({ s with m := closedA s.m } : As) = _ from HEq.out]; exact h5, HT4.out.trans (t5.wide fun _ h => (.inl h : axO _))⟩
    clear h5 t5
    go_wp2
    go_ret
    exact HF.out
end
end Go.Proofs.YtjepnddndpmnnaaGreat
