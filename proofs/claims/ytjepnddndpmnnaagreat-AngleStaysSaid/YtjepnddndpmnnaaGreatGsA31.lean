/-
  angle: define.
  angle: attrText; the rows of attributes and of open elements, appended to.
-/
import Derived.Test.YtjepnddndpmnnaaGreatGsA30
namespace Go.Proofs.YtjepnddndpmnnaaGreat
open Go.RowKit Go.Maps
set_option maxRecDepth 100000
set_option linter.unusedSimpArgs false
set_option linter.unusedVariables false
set_option linter.unusedSectionVars false
set_option linter.unusedSectionVars false
variable [Tab] [Fo]

section
variable {w w' : World} {base m o ck e mb g : Nat} {s : As}
theorem AX.drew (h : AX w base m o ck e mb g s) : AX w.drew base m o ck e mb g s := h.below (below_drew (Below.refl _ _))

set_option maxHeartbeats 4000000 in
theorem adefine_any (b : UInt8) (h : AX w base m o ck e mb g s) (hok : AgOk s.m) :
    Calls Tryz.prog 112 #[.pointer (some ⟨m, 0, none⟩), .int .u8 (b.toNat : Int)] w (APo w base m o ck e mb g (s.mr (defineA s.m b))) := by
  have c0 := h.at0
  have f0 := h.frz 0
  have hlt := h.lt
  unfold defineA
  by_cases hb : b.toNat ≠ 62
  · rw [if_pos hb]
    have z : ((b.toNat : Int) != 62) = true := by rw [bne_iff_ne]; omega
    have HF := Lib.hid (APo.of h (Tch.refl _ _ _) 2)
    clear h hb
    go_enter Tryz.func112, Tryz.ntmps112
    go_wp2
    go_ret
    exact HF.out
  · rw [if_neg hb]
    have z : ((b.toNat : Int) != 62) = false := by rw [bne_eq_false_iff_eq]; omega
    have h1 := h.setAt 0
    have hn := hok.nmd
    have hr := hok.rt
    have HD : Hid (AX (w.setCell ⟨m, 0, none⟩ (.int .i64 0)).drew base m o ck e mb g (setAt s 0)) := Lib.hid h1.1.drew
    have HT : Hid (Tch base axO w (w.setCell ⟨m, 0, none⟩ (.int .i64 0)).drew) := Lib.hid h1.2.drew
    have d4 := h1.1.drew.c4
    have d3 : (w.setCell ⟨m, 0, none⟩ (.int .i64 0)).drew.cell? ⟨m, 3, none⟩ = some (.string ⟨s.m.nmd.toArray⟩) := h1.1.drew.c3
    clear h hb h1 hok
    go_enter Tryz.func112, Tryz.ntmps112
    go_wp2
    refine region_g [13] (S := (fun W => W.cell? ⟨m, 4, none⟩ = some (.pointer (some ⟨e, 0, none⟩)) ∧ W.cell? ⟨m, 3, none⟩ = some (.string ⟨s.m.nmd.toArray⟩))) (by kernel_rfl) ⟨d4, d3⟩ (fun hH => ?_)
    refine g_take (i := 0) (v := .pointer (some ⟨m, 0, none⟩)) (by rfl) (by kernel_rfl) (by kernel_rfl) (by kernel_rfl) (by kernel_rfl) (fun _ _ _ h => (by cases h.1)) (Or.inl ⟨by kernel_rfl, fun W hS => (by obtain ⟨s0, s1⟩ := hS; go_simp)⟩) hH ?_
    simp only [Act.put, List.setIfInBounds_toArray, List.set_cons_zero, List.set_cons_succ]
    refine g_take (i := 1) (v := .pointer (some ⟨m, 0, none⟩)) (by rfl) (by kernel_rfl) (by kernel_rfl) (by kernel_rfl) (by kernel_rfl) (fun _ _ _ h => (by cases h.1)) (Or.inl ⟨by kernel_rfl, fun W hS => (by obtain ⟨s0, s1⟩ := hS; go_simp)⟩) hH ?_
    simp only [Act.put, List.setIfInBounds_toArray, List.set_cons_zero, List.set_cons_succ]
    refine g_take (i := 2) (v := .pointer (some ⟨m, 4, none⟩)) (by rfl) (by kernel_rfl) (by kernel_rfl) (by kernel_rfl) (by kernel_rfl) (fun _ _ _ h => (by cases h.1)) (Or.inl ⟨by kernel_rfl, fun W hS => (by obtain ⟨s0, s1⟩ := hS; go_simp)⟩) hH ?_
    simp only [Act.put, List.setIfInBounds_toArray, List.set_cons_zero, List.set_cons_succ]
    refine g_take (i := 3) (v := .pointer (some ⟨e, 0, none⟩)) (by rfl) (by kernel_rfl) (by kernel_rfl) (by kernel_rfl) (by kernel_rfl) (fun _ _ _ h => (by cases h.1)) (Or.inl ⟨by kernel_rfl, fun W hS => (by obtain ⟨s0, s1⟩ := hS; go_simp)⟩) hH ?_
    simp only [Act.put, List.setIfInBounds_toArray, List.set_cons_zero, List.set_cons_succ]
    refine g_take (i := 4) (v := .pointer (some ⟨m, 0, none⟩)) (by rfl) (by kernel_rfl) (by kernel_rfl) (by kernel_rfl) (by kernel_rfl) (fun _ _ _ h => (by cases h.1)) (Or.inl ⟨by kernel_rfl, fun W hS => (by obtain ⟨s0, s1⟩ := hS; go_simp)⟩) hH ?_
    simp only [Act.put, List.setIfInBounds_toArray, List.set_cons_zero, List.set_cons_succ]
    refine g_take (i := 5) (v := .pointer (some ⟨m, 0, none⟩)) (by rfl) (by kernel_rfl) (by kernel_rfl) (by kernel_rfl) (by kernel_rfl) (fun _ _ _ h => (by cases h.1)) (Or.inl ⟨by kernel_rfl, fun W hS => (by obtain ⟨s0, s1⟩ := hS; go_simp)⟩) hH ?_
    simp only [Act.put, List.setIfInBounds_toArray, List.set_cons_zero, List.set_cons_succ]
    refine g_take (i := 6) (v := .pointer (some ⟨m, 3, none⟩)) (by rfl) (by kernel_rfl) (by kernel_rfl) (by kernel_rfl) (by kernel_rfl) (fun _ _ _ h => (by cases h.1)) (Or.inl ⟨by kernel_rfl, fun W hS => (by obtain ⟨s0, s1⟩ := hS; go_simp)⟩) hH ?_
    simp only [Act.put, List.setIfInBounds_toArray, List.set_cons_zero, List.set_cons_succ]
    refine g_take (i := 7) (v := .string ⟨s.m.nmd.toArray⟩) (by rfl) (by kernel_rfl) (by kernel_rfl) (by kernel_rfl) (by kernel_rfl) (fun _ _ _ h => (by cases h.1)) (Or.inl ⟨by kernel_rfl, fun W hS => (by obtain ⟨s0, s1⟩ := hS; go_simp)⟩) hH ?_
    simp only [Act.put, List.setIfInBounds_toArray, List.set_cons_zero, List.set_cons_succ]
    refine g_take (i := 8) (v := .pointer (some ⟨m, 0, none⟩)) (by rfl) (by kernel_rfl) (by kernel_rfl) (by kernel_rfl) (by kernel_rfl) (fun _ _ _ h => (by cases h.1)) (Or.inl ⟨by kernel_rfl, fun W hS => (by obtain ⟨s0, s1⟩ := hS; go_simp)⟩) hH ?_
    simp only [Act.put, List.setIfInBounds_toArray, List.set_cons_zero, List.set_cons_succ]
    refine g_take (i := 9) (v := .pointer (some ⟨m, 0, none⟩)) (by rfl) (by kernel_rfl) (by kernel_rfl) (by kernel_rfl) (by kernel_rfl) (fun _ _ _ h => (by cases h.1)) (Or.inl ⟨by kernel_rfl, fun W hS => (by obtain ⟨s0, s1⟩ := hS; go_simp)⟩) hH ?_
    simp only [Act.put, List.setIfInBounds_toArray, List.set_cons_zero, List.set_cons_succ]
    refine g_take (i := 10) (v := .pointer (some ⟨m, 5, none⟩)) (by rfl) (by kernel_rfl) (by kernel_rfl) (by kernel_rfl) (by kernel_rfl) (fun _ _ _ h => (by cases h.1)) (Or.inl ⟨by kernel_rfl, fun W hS => (by obtain ⟨s0, s1⟩ := hS; go_simp)⟩) hH ?_
    simp only [Act.put, List.setIfInBounds_toArray, List.set_cons_zero, List.set_cons_succ]
    refine g_one (i := 11) (by kernel_rfl) (by rfl) (fun K hK => ?_)
    go_simp
    refine (atake_any HD.out).mono ?_
    rintro E w2 ⟨rfl, h2, t2⟩
    have H2 := Lib.hid h2
    have T2' := Lib.hid (HT.out.trans t2)
    have k4 := h2.c4
    have k3 : w2.cell? ⟨m, 3, none⟩ = some (.string ⟨s.m.nmd.toArray⟩) := h2.c3
    clear h2 t2
    refine hK.out _ _ (fun _ => ⟨k4, k3⟩) (fun _ => ?_)
    clear hK K hH
    try simp only [Act.put, List.setIfInBounds_toArray, List.set_cons_zero, List.set_cons_succ]
    refine g_one (i := 12) (by kernel_rfl) (by rfl) (fun K hK => ?_)
    go_simp
    have hD := edefine_any w2 e mb s.m.L s.m.told ⟨s.m.nmd.toArray⟩ ⟨s.m.rt.toArray⟩ H2.out.ent (by rw [svSize]; omega) (by rw [svSize]; omega)
    refine hD.mono ?_
    rintro E w3 ⟨rfl, hE3, hT3⟩
    have h3 := H2.out.entc hE3 hT3
    have HF : Hid (APo w base m o ck e mb g (s.mr ⟨{ s.m with a := 0, rt := [], L := defE s.m.L s.m.nmd s.m.rt }, defC s.m.L s.m.nmd s.m.rt⟩) (.returned (.int .i64 (defC s.m.L s.m.nmd s.m.rt))) w3) := Lib.hid ⟨rfl, h3.1, T2'.out.trans h3.2⟩
    have q4 := h3.1.c4
    have q3 : w3.cell? ⟨m, 3, none⟩ = some (.string ⟨s.m.nmd.toArray⟩) := h3.1.c3
    clear h3 hE3 hT3 hD H2 T2' HD HT k4 k3
    refine hK.out _ _ (fun _ => ⟨q4, q3⟩) (fun _ => ?_)
    clear hK K
    try simp only [Act.put, List.setIfInBounds_toArray, List.set_cons_zero, List.set_cons_succ]
    refine g_one (i := 13) (by kernel_rfl) (by rfl) (fun K hK => ?_)
    go_simp
    refine hK.out _ _ (fun h => absurd (List.mem_singleton.2 rfl) h) (fun _ => ?_)
    clear hK K
    refine g_done (by kernel_rfl) ⟨by first | rfl | trivial, ?_⟩ _
    go_wp2
    go_ret
    exact HF.out
end
end Go.Proofs.YtjepnddndpmnnaaGreat
namespace Go.Proofs.YtjepnddndpmnnaaGreat
open Go.RowKit Go.Maps
set_option maxRecDepth 100000
set_option linter.unusedSimpArgs false
set_option linter.unusedVariables false
set_option linter.unusedSectionVars false
set_option linter.unusedSectionVars false
variable [Tab] [Fo]

theorem Tryz.infoAt : (Tryz.prog.info? 197).map (fun i => (i.zero, i.size, i.bytes)) = some (some (.agg #[.string ⟨#[]⟩, .string ⟨#[]⟩, .string ⟨#[]⟩]), 3, 48) := by kernel_rfl
theorem Tryz.infoNa : (Tryz.prog.info? 97).map (fun i => (i.zero, i.size, i.bytes)) = some (some (.agg #[.string ⟨#[]⟩, .string ⟨#[]⟩]), 2, 32) := by kernel_rfl
theorem cells3S (w : World) (a b c : Value) (t : TypeId) : ∀ j u, [a, b, c][j]? = some u → (w.alloc (.cells #[a, b, c] t)).cell? ((⟨w.heap.size, 0, none⟩ : Addr).add j) = some u := by
  intro j u hj
  have hB := Blk.new w t #[a, b, c]
  match j with
  | 0 => simp at hj; subst hj; exact hB.cell 0
  | 1 => simp at hj; subst hj; exact hB.cell 1
  | 2 => simp at hj; subst hj; exact hB.cell 2
  | n + 3 => simp at hj
theorem cells2S (w : World) (a b : Value) (t : TypeId) : ∀ j u, [a, b][j]? = some u → (w.alloc (.cells #[a, b] t)).cell? ((⟨w.heap.size, 0, none⟩ : Addr).add j) = some u := by
  intro j u hj
  have hB := Blk.new w t #[a, b]
  match j with
  | 0 => simp at hj; subst hj; exact hB.cell 0
  | 1 => simp at hj; subst hj; exact hB.cell 1
  | n + 2 => simp at hj
theorem atCells_snoc (l : List (Na × List UInt8)) (x : Na × List UInt8) : atCells (l ++ [x]) = atCells l ++ [sv x.1.p, sv x.1.l, sv x.2] := by unfold atCells; rw [List.flatMap_append]; rfl
theorem naCells_snoc (l : List Na) (x : Na) : naCells (l ++ [x]) = naCells l ++ [sv x.p, sv x.l] := by unfold naCells; rw [List.flatMap_append]; rfl
def atO : Obj → Prop
  | .cells _ t _ => t = 197
  | _ => False
def naO : Obj → Prop
  | .cells _ t _ => t = 97
  | _ => False
theorem at_ag {o : Obj} (h : atO o) : agO o := by cases o <;> simp only [atO, agO] at h ⊢; exact .inr (.inl h)
theorem na_ag {o : Obj} (h : naO o) : agO o := by cases o <;> simp only [naO, agO] at h ⊢; exact .inr (.inr h)

section
variable {w w' : World} {base m o ck e mb g : Nat} {s : As} {M M' : Ag} {av ov : Value}
/-- A row's value, with its length. -/
theorem own_shape {b : Nat} {t : TypeId} {sz n : Nat} {v : Value} {xs : List Value} (h : w.ownsRow b t sz v n xs) : ∃ A cap, v = .slice A n cap ∧ n ≤ cap := by
  rcases h.2 with ⟨rfl, h0⟩ | ⟨g', cap, cur, rfl, _, _, hnc, _⟩
  · exact ⟨none, 0, by rw [h0], by omega⟩
  · exact ⟨_, cap, rfl, hnc⟩
/-- The row of the attributes, appended to. -/
theorem AgAt.pushAt {o1 : Obj} {v' : Value} (h : AgAt w base m M e g av ov) (hown : w'.ownsRow base 197 3 v' M'.ats.length (atCells M'.ats)) (hg : (w.alloc o1).grownBy w' av.ownBlock) (hnb : NB (w.alloc o1) av v')
    (hc : ∀ u, agCells M' e g u ov = (agCells M e g av ov).setIfInBounds 15 u) (ho : M'.op = M.op) : AgAt (w'.setCell ⟨m, 15, none⟩ v') base m M' e g v' ov ∧ Tch base agO w (w'.setCell ⟨m, 15, none⟩ v') ∧ Blk w' m 101 (agCells M e g av ov) := by
  have ha := h.below ((Below.refl _ _).alloc (Nat.le_refl _) o1)
  have hT : Tch base atO (w.alloc o1) w' := Tch.of_row ha.ats hg (Nat.le_refl _) ha.nfa (fun _ => rfl)
  have hT2 : Tch base agO w w' := (Tch.of_below ((Below.refl _ _).alloc (Nat.le_refl _) o1)).trans (hT.wide fun _ => at_ag)
  have hB : Blk w' m 101 (agCells M e g av ov) := ha.blk.tch hT (.inr (by simp only [atO]; decide))
  have hS : Tch base agOnly w' (w'.setCell ⟨m, 15, none⟩ v') := (Tch.refl _ _ _).set hB h.bm h.nf (show agOnly (.cells _ _ _) from rfl) 15 v'
  have hnf : NF v' := ha.nfa.nb hnb ha.lim
  have hO : w'.ownsRow base 97 2 ov M.op.length (naCells M.op) := row_tch ha.opn hT (fun _ _ => by simp only [atO]; decide)
  refine ⟨⟨by rw [hc]; exact hB.set_ 15 v', row_tch hown hS (fun _ _ => by simp only [agOnly]; decide), by rw [ho]; exact row_tch hO hS (fun _ _ => by simp only [agOnly]; decide), hnf, h.nfo, h.bm, h.nf, Nat.le_trans h.lim (Nat.le_trans hT2.size hS.size)⟩, hT2.trans (hS.wide fun _ => ag_of), hB⟩
/-- The row of the open elements, appended to. -/
theorem AgAt.pushOp {o1 : Obj} {v' : Value} (h : AgAt w base m M e g av ov) (hown : w'.ownsRow base 97 2 v' M'.op.length (naCells M'.op)) (hg : (w.alloc o1).grownBy w' ov.ownBlock) (hnb : NB (w.alloc o1) ov v')
    (hc : ∀ u, agCells M' e g av u = (agCells M e g av ov).setIfInBounds 18 u) (ho : M'.ats = M.ats) : AgAt (w'.setCell ⟨m, 18, none⟩ v') base m M' e g av v' ∧ Tch base agO w (w'.setCell ⟨m, 18, none⟩ v') ∧ Blk w' m 101 (agCells M e g av ov) := by
  have ha := h.below ((Below.refl _ _).alloc (Nat.le_refl _) o1)
  have hT : Tch base naO (w.alloc o1) w' := Tch.of_row ha.opn hg (Nat.le_refl _) ha.nfo (fun _ => rfl)
  have hT2 : Tch base agO w w' := (Tch.of_below ((Below.refl _ _).alloc (Nat.le_refl _) o1)).trans (hT.wide fun _ => na_ag)
  have hB : Blk w' m 101 (agCells M e g av ov) := ha.blk.tch hT (.inr (by simp only [naO]; decide))
  have hS : Tch base agOnly w' (w'.setCell ⟨m, 18, none⟩ v') := (Tch.refl _ _ _).set hB h.bm h.nf (show agOnly (.cells _ _ _) from rfl) 18 v'
  have hnf : NF v' := ha.nfo.nb hnb ha.lim
  have hO : w'.ownsRow base 197 3 av M.ats.length (atCells M.ats) := row_tch ha.ats hT (fun _ _ => by simp only [naO]; decide)
  refine ⟨⟨by rw [hc]; exact hB.set_ 18 v', by rw [ho]; exact row_tch hO hS (fun _ _ => by simp only [agOnly]; decide), row_tch hown hS (fun _ _ => by simp only [agOnly]; decide), h.nfa, hnf, h.bm, h.nf, Nat.le_trans h.lim (Nat.le_trans hT2.size hS.size)⟩, hT2.trans (hS.wide fun _ => ag_of), hB⟩

set_option maxHeartbeats 4000000 in
theorem aattrtext_any (b : UInt8) (h : AX w base m o ck e mb g s) (hok : AgOk s.m) (hla : s.m.ats.length ≤ 1000) :
    Calls Tryz.prog 117 #[.pointer (some ⟨m, 0, none⟩), .int .u8 (b.toNat : Int)] w (APo w base m o ck e mb g (s.mr (attrTextA s.m b))) := by
  have c0 := h.at0
  have f0 := h.frz 0
  have hlt := h.lt
  have hE := Lib.hid (aended_any b 34 h)
  unfold attrTextA
  cases hz : endedA s.m b 34 with
  | false =>
    rw [if_neg (by decide)]
    rw [hz] at hE
    have hA := Lib.hid (aadd_any b h hok)
    obtain ⟨R, hR⟩ : ∃ R, s.mr (addR s.m b) = R := ⟨_, rfl⟩
    rw [hR] at hA ⊢
    clear h hok hz hR
    go_enter Tryz.func117, Tryz.ntmps117
    go_wp2_with fail
    refine hE.out.mono ?_
    rintro E w1 ⟨rfl, rfl⟩
    go_wp2_with fail
    refine hA.out.mono ?_
    intro E w3 hq
    have HF := Lib.hid hq
    have hE := hq.1
    clear hq
    subst hE
    go_wp2
    go_ret
    exact HF.out
  | true =>
    rw [if_pos rfl]
    rw [hz] at hE
    have h1 := h.setAt 8
    have hr := hok.rt
    have HD : Hid (AX (w.setCell ⟨m, 0, none⟩ (.int .i64 8)).drew base m o ck e mb g (setAt s 8)) := Lib.hid h1.1.drew
    have HT : Hid (Tch base axO w (w.setCell ⟨m, 0, none⟩ (.int .i64 8)).drew) := Lib.hid h1.2.drew
    obtain ⟨av, ov, hM⟩ := h1.1.drew.mc
    obtain ⟨A, cap, rfl, hcap⟩ := own_shape hM.ats
    have d15 : (w.setCell ⟨m, 0, none⟩ (.int .i64 8)).drew.cell? ⟨m, 15, none⟩ = some (.slice A s.m.ats.length cap) := hM.cells2.2.2.2.2.1
    have d13 : (w.setCell ⟨m, 0, none⟩ (.int .i64 8)).drew.cell? ⟨m, 13, none⟩ = some (.string ⟨s.m.an.p.toArray⟩) := hM.cells2.2.2.1
    have d14 : (w.setCell ⟨m, 0, none⟩ (.int .i64 8)).drew.cell? ⟨m, 14, none⟩ = some (.string ⟨s.m.an.l.toArray⟩) := hM.cells2.2.2.2.1
    have HM := Lib.hid hM
    clear h hz h1 hok hM
    go_enter Tryz.func117, Tryz.ntmps117
    go_wp2_with fail
    refine hE.out.mono ?_
    rintro E w ⟨rfl, rfl⟩
    go_wp2
    refine region_g [18] (S := (fun W => W.cell? ⟨m, 15, none⟩ = some (.slice A s.m.ats.length cap) ∧ W.cell? ⟨m, 13, none⟩ = some (.string ⟨s.m.an.p.toArray⟩) ∧ W.cell? ⟨m, 14, none⟩ = some (.string ⟨s.m.an.l.toArray⟩))) (by kernel_rfl) ⟨d15, d13, d14⟩ (fun hH => ?_)
    refine g_take (i := 0) (v := .pointer (some ⟨m, 0, none⟩)) (by rfl) (by kernel_rfl) (by kernel_rfl) (by kernel_rfl) (by kernel_rfl) (fun _ _ _ h => (by cases h.1)) (Or.inl ⟨by kernel_rfl, fun W hS => (by obtain ⟨s0, s1, s2⟩ := hS; go_simp)⟩) hH ?_
    simp only [Act.put, List.setIfInBounds_toArray, List.set_cons_zero, List.set_cons_succ]
    refine g_take (i := 1) (v := .pointer (some ⟨m, 0, none⟩)) (by rfl) (by kernel_rfl) (by kernel_rfl) (by kernel_rfl) (by kernel_rfl) (fun _ _ _ h => (by cases h.1)) (Or.inl ⟨by kernel_rfl, fun W hS => (by obtain ⟨s0, s1, s2⟩ := hS; go_simp)⟩) hH ?_
    simp only [Act.put, List.setIfInBounds_toArray, List.set_cons_zero, List.set_cons_succ]
    refine g_take (i := 2) (v := .pointer (some ⟨m, 0, none⟩)) (by rfl) (by kernel_rfl) (by kernel_rfl) (by kernel_rfl) (by kernel_rfl) (fun _ _ _ h => (by cases h.1)) (Or.inl ⟨by kernel_rfl, fun W hS => (by obtain ⟨s0, s1, s2⟩ := hS; go_simp)⟩) hH ?_
    simp only [Act.put, List.setIfInBounds_toArray, List.set_cons_zero, List.set_cons_succ]
    refine g_take (i := 3) (v := .pointer (some ⟨m, 15, none⟩)) (by rfl) (by kernel_rfl) (by kernel_rfl) (by kernel_rfl) (by kernel_rfl) (fun _ _ _ h => (by cases h.1)) (Or.inl ⟨by kernel_rfl, fun W hS => (by obtain ⟨s0, s1, s2⟩ := hS; go_simp)⟩) hH ?_
    simp only [Act.put, List.setIfInBounds_toArray, List.set_cons_zero, List.set_cons_succ]
    refine g_take (i := 4) (v := .slice A s.m.ats.length cap) (by rfl) (by kernel_rfl) (by kernel_rfl) (by kernel_rfl) (by kernel_rfl) (fun _ _ _ h => (by cases h.1)) (Or.inl ⟨by kernel_rfl, fun W hS => (by obtain ⟨s0, s1, s2⟩ := hS; go_simp)⟩) hH ?_
    simp only [Act.put, List.setIfInBounds_toArray, List.set_cons_zero, List.set_cons_succ]
    refine g_take (i := 5) (v := .pointer (some ⟨m, 0, none⟩)) (by rfl) (by kernel_rfl) (by kernel_rfl) (by kernel_rfl) (by kernel_rfl) (fun _ _ _ h => (by cases h.1)) (Or.inl ⟨by kernel_rfl, fun W hS => (by obtain ⟨s0, s1, s2⟩ := hS; go_simp)⟩) hH ?_
    simp only [Act.put, List.setIfInBounds_toArray, List.set_cons_zero, List.set_cons_succ]
    refine g_take (i := 6) (v := .pointer (some ⟨m, 0, none⟩)) (by rfl) (by kernel_rfl) (by kernel_rfl) (by kernel_rfl) (by kernel_rfl) (fun _ _ _ h => (by cases h.1)) (Or.inl ⟨by kernel_rfl, fun W hS => (by obtain ⟨s0, s1, s2⟩ := hS; go_simp)⟩) hH ?_
    simp only [Act.put, List.setIfInBounds_toArray, List.set_cons_zero, List.set_cons_succ]
    refine g_take (i := 7) (v := .pointer (some ⟨m, 13, none⟩)) (by rfl) (by kernel_rfl) (by kernel_rfl) (by kernel_rfl) (by kernel_rfl) (fun _ _ _ h => (by cases h.1)) (Or.inl ⟨by kernel_rfl, fun W hS => (by obtain ⟨s0, s1, s2⟩ := hS; go_simp)⟩) hH ?_
    simp only [Act.put, List.setIfInBounds_toArray, List.set_cons_zero, List.set_cons_succ]
    refine g_take (i := 8) (v := .agg #[.string ⟨s.m.an.p.toArray⟩, .string ⟨s.m.an.l.toArray⟩]) (by rfl) (by kernel_rfl) (by kernel_rfl) (by kernel_rfl) (by kernel_rfl) (fun _ _ _ h => (by cases h.1)) (Or.inl ⟨by kernel_rfl, fun W hS => (by obtain ⟨s0, s1, s2⟩ := hS; go_simp)⟩) hH ?_
    simp only [Act.put, List.setIfInBounds_toArray, List.set_cons_zero, List.set_cons_succ]
    refine g_take (i := 9) (v := .pointer (some ⟨m, 0, none⟩)) (by rfl) (by kernel_rfl) (by kernel_rfl) (by kernel_rfl) (by kernel_rfl) (fun _ _ _ h => (by cases h.1)) (Or.inl ⟨by kernel_rfl, fun W hS => (by obtain ⟨s0, s1, s2⟩ := hS; go_simp)⟩) hH ?_
    simp only [Act.put, List.setIfInBounds_toArray, List.set_cons_zero, List.set_cons_succ]
    refine g_take (i := 10) (v := .pointer (some ⟨m, 0, none⟩)) (by rfl) (by kernel_rfl) (by kernel_rfl) (by kernel_rfl) (by kernel_rfl) (fun _ _ _ h => (by cases h.1)) (Or.inl ⟨by kernel_rfl, fun W hS => (by obtain ⟨s0, s1, s2⟩ := hS; go_simp)⟩) hH ?_
    simp only [Act.put, List.setIfInBounds_toArray, List.set_cons_zero, List.set_cons_succ]
    refine g_take (i := 11) (v := .pointer (some ⟨m, 5, none⟩)) (by rfl) (by kernel_rfl) (by kernel_rfl) (by kernel_rfl) (by kernel_rfl) (fun _ _ _ h => (by cases h.1)) (Or.inl ⟨by kernel_rfl, fun W hS => (by obtain ⟨s0, s1, s2⟩ := hS; go_simp)⟩) hH ?_
    simp only [Act.put, List.setIfInBounds_toArray, List.set_cons_zero, List.set_cons_succ]
    refine g_one (i := 12) (by kernel_rfl) (by rfl) (fun K hK => ?_)
    go_simp
    refine (atake_eq HD.out).mono ?_
    rintro E w2 ⟨rfl, hw2⟩
    have h2 := HD.out.set 6 (.string ⟨#[]⟩) { s.m with a := 8, rt := [] } (fun _ _ => rfl) rfl rfl rfl rfl rfl
    have hM2 := HM.out.set 6 (.string ⟨#[]⟩) (M' := { s.m with a := 8, rt := [] }) rfl rfl rfl
    rw [← hw2] at h2 hM2
    have H2 := Lib.hid h2.1
    have HM2 := Lib.hid hM2
    have T2' := Lib.hid (HT.out.trans h2.2)
    have k15 : w2.cell? ⟨m, 15, none⟩ = some (.slice A s.m.ats.length cap) := hM2.cells2.2.2.2.2.1
    have k13 : w2.cell? ⟨m, 13, none⟩ = some (.string ⟨s.m.an.p.toArray⟩) := hM2.cells2.2.2.1
    have k14 : w2.cell? ⟨m, 14, none⟩ = some (.string ⟨s.m.an.l.toArray⟩) := hM2.cells2.2.2.2.1
    clear h2 hM2 hw2
    refine hK.out _ _ (fun _ => ⟨k15, k13, k14⟩) (fun _ => ?_)
    clear hK K hH
    try simp only [Act.put, List.setIfInBounds_toArray, List.set_cons_zero, List.set_cons_succ]
    refine g_one (i := 13) (by kernel_rfl) (by rfl) (fun K hK => ?_)
    go_simp
    refine hK.out _ _ (fun _ => ⟨k15, k13, k14⟩) (fun _ => ?_)
    clear hK K
    try simp only [Act.put, List.setIfInBounds_toArray, List.set_cons_zero, List.set_cons_succ]
    refine g_one (i := 14) (by kernel_rfl) (by rfl) (fun K hK => ?_)
    go_simp
    have hMa := HM2.out.below ((Below.refl w2.heap.size w2).alloc (Nat.le_refl _) (.cells #[sv s.m.an.p, sv s.m.an.l, sv s.m.rt] 197))
    refine hK.out _ _ (fun _ => ⟨hMa.cells2.2.2.2.2.1, hMa.cells2.2.2.1, hMa.cells2.2.2.2.1⟩) (fun _ => ?_)
    clear hK K
    refine g_one (i := 15) (by kernel_rfl) (by rfl) (fun K hK => ?_)
    refine step_appG (by rfl) (.tmp 23) (.tmp 33) 98 (by rfl) base 197 (.agg #[.string ⟨#[]⟩, .string ⟨#[]⟩, .string ⟨#[]⟩]) 3 48 Tryz.underlying98 Tryz.infoAt (by rfl) (by decide) (.slice A s.m.ats.length cap) s.m.ats.length (atCells s.m.ats) [sv s.m.an.p, sv s.m.an.l, sv s.m.rt] (by rfl) (by exact hMa.ats) (by simp [Value.oneCell', sv]) ⟨w2.heap.size, 0, none⟩ 1 1 (by rfl) (by rfl) (by exact cells3S w2 _ _ _ _) (by simp [maxLen]; omega) (by omega) hMa.hb ?_
    intro v7 w7 hown7 hg7 hnb7
    have hl8 : (s.m.ats ++ [(s.m.an, s.m.rt)]).length = s.m.ats.length + 1 := by simp
    have hown8 : w7.ownsRow base 197 3 v7 (s.m.ats ++ [(s.m.an, s.m.rt)]).length (atCells (s.m.ats ++ [(s.m.an, s.m.rt)])) := by
      rw [hl8, atCells_snoc]; exact hown7
    obtain ⟨p1, p2, pb⟩ := HM2.out.pushAt (M' := { s.m with a := 8, rt := [], ats := s.m.ats ++ [(s.m.an, s.m.rt)] }) hown8 hg7 hnb7 (fun _ => rfl) rfl
    have hX := H2.out.tchO p2 ⟨_, _, p1⟩ rfl rfl rfl
    have HF : Hid (APo w base m o ck e mb g (s.mr ⟨{ s.m with a := 8, ats := s.m.ats ++ [(s.m.an, s.m.rt)], rt := [] }, 0⟩) (.returned (.int .i64 0)) (w7.setCell ⟨m, 15, none⟩ v7)) := Lib.hid ⟨rfl, hX, T2'.out.trans (p2.wide fun _ h => .inr h)⟩
    obtain ⟨A7, cap7, rfl, _⟩ := own_shape hown8
    rw [hl8] at HF ⊢
    have hs7 : w7.cell? ⟨m, 15, none⟩ = some (.slice A s.m.ats.length cap) ∧ w7.cell? ⟨m, 13, none⟩ = some (.string ⟨s.m.an.p.toArray⟩) ∧ w7.cell? ⟨m, 14, none⟩ = some (.string ⟨s.m.an.l.toArray⟩) := by
      exact ⟨pb.cell 15, pb.cell 13, pb.cell 14⟩
    have p4 := pb.frozen 15
    have p5 := pb.lt
    have p3 : w7.cell? ⟨m, 15, none⟩ = some (.slice A s.m.ats.length cap) := pb.cell 15
    clear hown7 hown8 hg7 hnb7 hMa hX p1 p2 pb H2 HM2 T2' HT HD HM k15 k13 k14
    refine hK.out _ _ (fun _ => hs7) (fun _ => ?_)
    clear hK K
    try simp only [Act.put, List.setIfInBounds_toArray, List.set_cons_zero, List.set_cons_succ]
    refine g_one (i := 16) (by kernel_rfl) (by rfl) (fun K hK => ?_)
    go_simp
    refine hK.out _ _ (fun _ => hs7) (fun _ => ?_)
    clear hK K
    refine g_one (i := 17) (by kernel_rfl) (by rfl) (fun K hK => ?_)
    go_simp
    refine hK.out _ _ (fun _ => hs7) (fun _ => ?_)
    clear hK K
    refine g_one (i := 18) (by kernel_rfl) (by rfl) (fun K hK => ?_)
    go_simp
    refine hK.out _ _ (fun h => absurd (List.mem_singleton.2 rfl) h) (fun _ => ?_)
    clear hK K
    refine g_done (by kernel_rfl) ⟨by first | rfl | trivial, ?_⟩ _
    go_wp2
    go_ret
    exact HF.out
end
end Go.Proofs.YtjepnddndpmnnaaGreat
